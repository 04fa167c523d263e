/- write, Text. -/
import Derived.Test.YtfhcfaflggiacaaDoorTmW11
import Derived.Lib.ConvBytes
import Derived.Laws.BytesString
namespace Go.Proofs.YtfhcfaflggiacaaDoor
open Go.RowKit
open Tt

set_option maxHeartbeats 1000000 in
set_option maxRecDepth 100000 in
theorem keyedN_any (B : Nat) (di : Int) (k : Int) (hs s : List UInt8) (n : Int) (c ca : Nat) (hc : ¬ (c : Int) = 2) (A : Option Addr) (v : Value) (l : List UInt8) (w : World) (hb : Buf B w v l) (hl : l.length ≤ 999999999000) :
    Calls Tryd.prog 61 #[v, .string ⟨⟨hs⟩⟩, .int .i64 di, .agg #[.int .i64 k, .string ⟨⟨s⟩⟩, .int .i64 n, .slice A c ca]] w fun e w' => ∃ v', e = .returned v' ∧ Buf B w' v' (l ++ [63]) ∧ Grw w v w' v' := by
  have hb1 : Below w.heap.size w (w.alloc (.cells #[.int .i64 k, .string ⟨⟨s⟩⟩, .int .i64 n, .slice A c ca] 25)) := (Below.refl _ _).alloc (Nat.le_refl _) _
  obtain ⟨v1, w1, hr1, hB1, hG1⟩ := run_app ((hb.bel hb1).bel ((Below.refl _ _).alloc (Nat.le_refl _) (.cells #[.int .u8 63] 5))) [63] ⟨_, 0, none⟩ 1 (cell_byte _ 63) (by simp; omega)
  rw [World.size_alloc] at hr1
  have HR1 := Lib.hid hr1
  have HB1 := Lib.hid hB1
  have HG1 := Lib.hid (((Grw.below hb1).trans (Grw.alloc _ v (.cells #[.int .u8 63] 5))).trans hG1)
  clear hr1 hB1 hG1 hb hb1
  go_enter Tryd.func61, Tryd.ntmps61
  go_wp2_with (at_builtin; refine wpList_append_run _ rfl (.tmp 13) (.tmp 14) 55 55 rfl _ _ rfl rfl HR1.out ?_)
  go_ret
  exact ⟨_, rfl, HB1.out, HG1.out⟩

set_option maxHeartbeats 1000000 in
set_option maxRecDepth 100000 in
theorem write0_any (B : Nat) (di : Int) (hd : ¬ (262144 : Int) < di) (s : List UInt8) (n : Int) (c ca : Nat) (A : Option Addr) (v : Value) (l : List UInt8) (w : World) (hb : Buf B w v l) (hl : l.length + s.length ≤ 999999999000) :
    Calls Tryd.prog 51 #[v, .int .i64 di, .agg #[.int .i64 0, .string ⟨⟨s⟩⟩, .int .i64 n, .slice A c ca]] w fun e w' => ∃ v', e = .returned v' ∧ Buf B w' v' (l ++ s) ∧ Grw w v w' v' := by
  have hb1 : Below w.heap.size w (w.alloc (.cells #[.int .i64 0, .string ⟨⟨s⟩⟩, .int .i64 n, .slice A c ca] 25)) := (Below.refl _ _).alloc (Nat.le_refl _) _
  obtain ⟨v1, w1, hr1, hB1, hG1⟩ := run_appS (hb.bel hb1) s (by omega)
  have HR1 := Lib.hid hr1
  have HB1 := Lib.hid hB1
  have HG1 := Lib.hid ((Grw.below hb1).trans hG1)
  clear hr1 hB1 hG1 hb hb1
  go_enter Tryd.func51, Tryd.ntmps51
  go_wp2_with (at_builtin; refine wpList_append_run _ rfl (.tmp 16) (.tmp 18) 55 9 rfl _ _ rfl rfl HR1.out ?_)
  go_ret
  exact ⟨_, rfl, HB1.out, HG1.out⟩

set_option maxHeartbeats 1000000 in
set_option maxRecDepth 100000 in
theorem writeX_any (B : Nat) (di : Int) (hd : ¬ (262144 : Int) < di) (k : Int) (h0 : k ≠ 0) (h1 : k ≠ 1) (h2 : k ≠ 2) (h3 : k ≠ 3) (h4 : k ≠ 4) (h5 : k ≠ 5) (s : List UInt8) (n : Int) (c ca : Nat) (A : Option Addr) (v : Value) (l : List UInt8) (w : World) (hb : Buf B w v l) (hl : l.length ≤ 999999999000) :
    Calls Tryd.prog 51 #[v, .int .i64 di, .agg #[.int .i64 k, .string ⟨⟨s⟩⟩, .int .i64 n, .slice A c ca]] w fun e w' => ∃ v', e = .returned v' ∧ Buf B w' v' (l ++ [63]) ∧ Grw w v w' v' := by
  have hb1 : Below w.heap.size w (w.alloc (.cells #[.int .i64 k, .string ⟨⟨s⟩⟩, .int .i64 n, .slice A c ca] 25)) := (Below.refl _ _).alloc (Nat.le_refl _) _
  obtain ⟨v1, w1, hr1, hB1, hG1⟩ := run_app ((hb.bel hb1).bel ((Below.refl _ _).alloc (Nat.le_refl _) (.cells #[.int .u8 63] 5))) [63] ⟨_, 0, none⟩ 1 (cell_byte _ 63) (by simp; omega)
  rw [World.size_alloc] at hr1
  have HR1 := Lib.hid hr1
  have HB1 := Lib.hid hB1
  have HG1 := Lib.hid (((Grw.below hb1).trans (Grw.alloc _ v (.cells #[.int .u8 63] 5))).trans hG1)
  clear hr1 hB1 hG1 hb hb1
  go_enter Tryd.func51, Tryd.ntmps51
  go_wp2_with (at_builtin; refine wpList_append_run _ rfl (.tmp 60) (.tmp 61) 55 55 rfl _ _ rfl rfl HR1.out ?_)
  go_ret
  exact ⟨_, rfl, HB1.out, HG1.out⟩

/-- The kinds that one call answers. -/
theorem writeC_any (B : Nat) (di : Int) (hd : ¬ (262144 : Int) < di) (k : Int) (s : List UInt8) (n : Int) (c ca : Nat) (A : Option Addr) (v : Value) (R : List UInt8) (w : World)
    (hk : (k = 1 ∧ ∀ W, Below w.heap.size w W → Calls Tryd.prog 59 #[v, .int .i64 n] W fun e w' => ∃ v', e = .returned v' ∧ Buf B w' v' R ∧ Grw W v w' v') ∨
      (k = 3 ∧ ∀ W, Below w.heap.size w W → Calls Tryd.prog 60 #[v, .int .i64 di, .slice A c ca] W fun e w' => ∃ v', e = .returned v' ∧ Buf B w' v' R ∧ Grw W v w' v') ∨
      (k = 4 ∧ ∀ W, Below w.heap.size w W → Calls Tryd.prog 61 #[v, .string ⟨#[115, 101, 97, 108, 40]⟩, .int .i64 di, .agg #[.int .i64 k, .string ⟨⟨s⟩⟩, .int .i64 n, .slice A c ca]] W fun e w' => ∃ v', e = .returned v' ∧ Buf B w' v' R ∧ Grw W v w' v') ∨
      (k = 5 ∧ ∀ W, Below w.heap.size w W → Calls Tryd.prog 61 #[v, .string ⟨#[115, 117, 109, 40]⟩, .int .i64 di, .agg #[.int .i64 k, .string ⟨⟨s⟩⟩, .int .i64 n, .slice A c ca]] W fun e w' => ∃ v', e = .returned v' ∧ Buf B w' v' R ∧ Grw W v w' v')) :
    Calls Tryd.prog 51 #[v, .int .i64 di, .agg #[.int .i64 k, .string ⟨⟨s⟩⟩, .int .i64 n, .slice A c ca]] w fun e w' => ∃ v', e = .returned v' ∧ Buf B w' v' R ∧ Grw w v w' v' := by
  have hb1 : Below w.heap.size w (w.alloc (.cells #[.int .i64 k, .string ⟨⟨s⟩⟩, .int .i64 n, .slice A c ca] 25)) := (Below.refl _ _).alloc (Nat.le_refl _) _
  have HG0 := Lib.hid (Grw.below (v := v) hb1)
  rcases hk with ⟨rfl, hk⟩ | ⟨rfl, hk⟩ | ⟨rfl, hk⟩ | ⟨rfl, hk⟩
  all_goals
    have HC := Lib.hid (hk _ hb1)
    clear hk hb1
    go_enter Tryd.func51, Tryd.ntmps51
    go_wp2_with fail
    refine HC.out.mono ?_
    rintro _ w2 ⟨v2, rfl, hB2, hG2⟩
    have HB2 := Lib.hid hB2
    have HG2 := Lib.hid (HG0.out.trans hG2)
    clear hB2 hG2 HC
    go_wp2
    go_ret
    exact ⟨v2, rfl, HB2.out, HG2.out⟩

theorem ky_two (h : List UInt8) (n : Int) (q : List Tm) (h2 : q.length = 2) : ∃ x y, q = [x, y] ∧ ky h n (texts q) = h ++ text x ++ 32 :: (Lib.itoa n ++ 32 :: (text y ++ [41])) := by
  match q, h2 with
  | [x, y], _ => exact ⟨x, y, rfl, by simp [texts, ky]⟩
theorem ky_not (h : List UInt8) (n : Int) (q : List Tm) (h2 : q.length ≠ 2) : ky h n (texts q) = [63] := by
  match q, h2 with
  | [], _ => simp [texts, ky]
  | [x], _ => simp [texts, ky]
  | [x, y], h => simp at h
  | x :: y :: u :: r, _ => simp [texts, ky]

theorem write_any : ∀ x, WriteSaid x := Tm.ind (by
  intro k s n q ih B d di S v vx l w hdi hsz hb hr hS hl htab
  obtain ⟨A, ca, rfl, hn, hrow⟩ := rep_mk.1 hr
  rw [sz] at hsz
  rw [text] at hl ⊢
  have hdl : ¬ (262144 : Int) < di := by omega
  have hlow : ∀ {W}, Below w.heap.size w W → Below B w W := fun h => h.mono hb.2
  have hkey : ∀ (hh : List UInt8), l.length + (ky hh n (texts q)).length ≤ 999999999000 → hh.length ≤ 5 → ∀ W, Below w.heap.size w W → Calls Tryd.prog 61 #[v, .string ⟨⟨hh⟩⟩, .int .i64 di, .agg #[.int .i64 k, .string ⟨⟨s⟩⟩, .int .i64 n, .slice A q.length ca]] W fun e w' => ∃ v', e = .returned v' ∧ Buf B w' v' (l ++ ky hh n (texts q)) ∧ Grw W v w' v' := by
    intro hh hlen hh5 W hW
    by_cases h2 : q.length = 2
    · obtain ⟨x, y, rfl, e⟩ := ky_two hh n q h2
      rw [szs, szs, szs] at hsz
      rw [e] at hlen ⊢
      simp only [List.length_append, List.length_cons, List.length_nil] at hlen
      exact keyed_any x y (ih x (by simp)) (ih y (by simp)) B d di hdi (by omega) (by omega) k hh s n hn ca A S v l W (hb.bel hW) (trow_at hrow (hlow hW) hS) hS (by omega) (htab.on (hlow hW))
    · rw [ky_not hh n q h2]
      exact keyedN_any B di k hh s n q.length ca (by omega) A v l W (hb.bel hW) (by omega)
  unfold tx at hl ⊢
  by_cases h0 : k = 0
  · subst h0
    simp only [if_true] at hl ⊢
    exact write0_any B di hdl s n q.length ca A v l w hb hl
  by_cases h1 : k = 1
  · subst h1
    simp only [if_true, if_neg h0] at hl ⊢
    exact writeC_any B di hdl 1 s n q.length ca A v _ w (.inl ⟨rfl, fun W hW => number_any B n hn v l W (hb.bel hW) (by omega) (htab.on (hlow hW))⟩)
  by_cases h2 : k = 2
  · subst h2
    simp only [if_true, if_neg h0, if_neg h1] at hl ⊢
    refine writeK_any B di hdl s n hn q.length ca A v l w hb ?_ htab
    simp at hl
    omega
  by_cases h3 : k = 3
  · subst h3
    simp only [if_true, if_neg h0, if_neg h1, if_neg h2] at hl ⊢
    simp at hl
    exact writeC_any B di hdl 3 s n q.length ca A v _ w (.inr (.inl ⟨rfl, fun W hW => list_any q ih B d di hdi (by omega) ca A S v l W (hb.bel hW) (trow_at hrow (hlow hW) hS) hS (by omega) (htab.on (hlow hW))⟩))
  by_cases h4 : k = 4
  · subst h4
    simp only [if_true, if_neg h0, if_neg h1, if_neg h2, if_neg h3] at hl ⊢
    exact writeC_any B di hdl 4 s n q.length ca A v _ w (.inr (.inr (.inl ⟨rfl, hkey [115, 101, 97, 108, 40] hl (by simp)⟩)))
  by_cases h5 : k = 5
  · subst h5
    simp only [if_true, if_neg h0, if_neg h1, if_neg h2, if_neg h3, if_neg h4] at hl ⊢
    exact writeC_any B di hdl 5 s n q.length ca A v _ w (.inr (.inr (.inr ⟨rfl, hkey [115, 117, 109, 40] hl (by simp)⟩)))
  simp only [if_neg h0, if_neg h1, if_neg h2, if_neg h3, if_neg h4, if_neg h5] at hl ⊢
  exact writeX_any B di hdl k h0 h1 h2 h3 h4 h5 s n q.length ca A v l w hb (by omega))

theorem Buf.conv {B : Nat} {w : World} {v : Value} {l : List UInt8} (h : Buf B w v l) : (convert 55 9 v).run Tryd.prog w = .ok (.string ⟨⟨l⟩⟩) w := by
  rcases h.1.2 with ⟨rfl, h0⟩ | ⟨g, cap, cur, rfl, hbg, hgc, hnc, hcm, hcs, htake⟩
  · obtain rfl : l = [] := List.eq_nil_of_length_eq_zero h0
    rw [run_convert_bytes_string w 55 9 5 none _ _ Tryd.underlying55 Tryd.underlying5 Tryd.underlying9]
    rfl
  · exact run_convert_bytes_back (P := Tryd.prog) w 55 9 5 ⟨g, 0, none⟩ cap l Tryd.underlying55 Tryd.underlying5 Tryd.underlying9 (fun j hj => by
      have := h.1.cells (g := g) rfl j (.int .u8 (l[j].toNat : Nat)) (by rw [Lib.byteCells, List.getElem?_map, List.getElem?_eq_getElem hj]; rfl)
      exact this)

set_option maxHeartbeats 400000 in
set_option maxRecDepth 100000 in
theorem Text_any (x : Tm) (S : Nat → Prop) (vx : Value) (w : World) (hsz : sz x ≤ 262144) (hr : Rep w S x vx) (hS : ∀ b, S b → b < w.heap.size) (hl : (text x).length ≤ 999999999000) (htab : TabB w.heap.size w) :
    Calls Tryd.prog 19 #[vx] w fun e w' => e = .returned (.string ⟨⟨text x⟩⟩) ∧ Below w.heap.size w w' := by
  have hw := fun W h1 h2 => write_any x w.heap.size 0 0 S (.slice none 0 0) vx [] W rfl (by omega) h1 h2 hS
  obtain ⟨T, hT⟩ : ∃ T, T = text x := ⟨_, rfl⟩
  rw [← hT] at hw hl ⊢
  clear hT
  obtain ⟨k, s, n, q⟩ := x
  have hr0 := hr
  obtain ⟨A, ca, rfl, -, -⟩ := rep_mk.1 hr
  have hb1 : Below w.heap.size w (w.alloc (.cells #[.int .i64 k, .string ⟨⟨s⟩⟩, .int .i64 n, .slice A q.length ca] 25)) := (Below.refl _ _).alloc (Nat.le_refl _) _
  have hB0 := Buf.nil (w.alloc (.cells #[.int .i64 k, .string ⟨⟨s⟩⟩, .int .i64 n, .slice A q.length ca] 25)) w.heap.size hb1.size
  have HW := Lib.hid (hw _ hB0 (rep_below hr0 hb1 hS) (by simpa using hl) (htab.on hb1))
  have HB0 := Lib.hid hB0
  have HB1 := Lib.hid hb1
  clear hw hr hr0 hS htab hb1 hB0 hsz
  go_enter Tryd.func19, Tryd.ntmps19
  go_wp2_with fail
  refine HW.out.mono ?_
  rintro _ w2 ⟨v2, rfl, hB2, hG2⟩
  have hcv := hB2.conv
  rw [List.nil_append] at hcv
  have HL := Lib.hid (HB1.out.trans (HB0.out.low hG2))
  clear hB2 hG2 HW
  go_wp2
  go_ret
  exact ⟨rfl, HL.out⟩
end Go.Proofs.YtfhcfaflggiacaaDoor
