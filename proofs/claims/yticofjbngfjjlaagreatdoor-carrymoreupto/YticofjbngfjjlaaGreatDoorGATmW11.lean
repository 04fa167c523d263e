/- list, write, Text. -/
import Derived.Test.YticofjbngfjjlaaGreatDoorGATmW10
import Derived.Test.YticofjbngfjjlaaGreatDoorGATmPure
import Derived.Lib.ConvBytes
import Derived.Laws.BytesString
import Derived.RangeFuncBox
import Derived.RangeFuncCalls
import Derived.RangeFuncLeaves
import Derived.RangeFuncNested
import Derived.Shelf.Abstract
import Derived.OwnWalkIn
import Derived.TacticsInMore
import Derived.LoopNIn
import Derived.LoopIn
import Derived.Stop.RegionWithIn
import Derived.Sort.CutIn
namespace Go.Proofs.YticofjbngfjjlaaGreatDoor.Te
open Go.RowKit
open Tt

theorem jn_take_zero (q : List Tm) (h : 0 < q.length) : jn (texts (q.take 1)) = text q[0] := by
  cases q with
  | nil => simp at h
  | cons x r => simp [texts, jn]
theorem jn_take_succ (q : List Tm) (i : Nat) (h : i < q.length) (h0 : 0 < i) : jn (texts (q.take (i + 1))) = jn (texts (q.take i)) ++ 32 :: text q[i] := by
  rw [List.take_succ_eq_append_getElem h, texts_map, texts_map, List.map_append, List.map_singleton, jn_snoc]
  intro e
  have := congrArg List.length e
  rw [List.length_map, List.length_take, List.length_nil] at this
  omega
theorem jn_len : ∀ (l m : List Tm), (jn (texts l)).length ≤ (jn (texts (l ++ m))).length
  | [], m => by simp [texts, jn]
  | x :: r, m => by
    rw [List.cons_append, texts, texts, jn_pj, jn_pj]
    have h : (pj (texts r)).length ≤ (pj (texts (r ++ m))).length := by
      rw [texts_map, texts_map, List.map_append]
      simp [pj]
    simp; omega
theorem jn_take_len (q : List Tm) (i : Nat) : (jn (texts (q.take i))).length ≤ (jn (texts q)).length := by
  have := jn_len (q.take i) (q.drop i)
  rwa [List.take_append_drop] at this

set_option maxHeartbeats 2000000 in
set_option maxRecDepth 100000 in
theorem list_any (q : List Tm) (ih : ∀ x ∈ q, WriteSaid x) (B d : Nat) (di : Int) (hdi : di = d) (hsz : d + 1 + szs q ≤ 262144) (ca : Nat) (A : Option Addr) (S : Nat → Prop) (v : Value) (l : List UInt8) (w : World) (hb : Buf B w v l)
    (hr : TRow w S q A) (hS : ∀ b, S b → b < B) (hl : l.length + (jn (texts q)).length + 2 ≤ 999999999000) (htab : TabB B w) :
    Calls Tryz.prog 192 #[v, .int .i64 di, .slice A q.length ca] w fun e w' => ∃ v', e = .returned v' ∧ Buf B w' v' (l ++ 91 :: (jn (texts q) ++ [93])) ∧ Grw w v w' v' := by
  have hql := szs_len q
  obtain ⟨n, hn⟩ : ∃ n, n = q.length := ⟨_, rfl⟩
  obtain ⟨v1, w1, hr1, hB1, hG1⟩ := run_app (hb.bel ((Below.refl _ _).alloc (Nat.le_refl _) (.cells #[.int .u8 91] 5))) [91] ⟨w.heap.size, 0, none⟩ 1 (cell_byte w 91) (by simp; omega)
  have HR1 := Lib.hid hr1
  have HB1 := Lib.hid hB1
  have HG1 := Lib.hid ((Grw.alloc w v (.cells #[.int .u8 91] 5)).trans hG1)
  have HB0 := Lib.hid hb
  have HTR := Lib.hid hr
  have HS := Lib.hid hS
  have HT := Lib.hid htab
  have HIH := Lib.hid ih
  have HN := Lib.hid hn
  have hdl : di ≤ 262144 ∧ 0 ≤ di := by omega
  have HD := Lib.hid hdi
  rw [← hn]
  clear hr1 hB1 hG1 hb hr hS htab ih hdi
  go_enter Tryz.func192, Tryz.ntmps192
  go_wp2_with (at_builtin; refine wpList_append_run _ rfl (.tmp 9) (.tmp 10) 31 31 rfl _ _ rfl rfl HR1.out ?_)
  go_loopw [0, 14] (fun bv iv wr => ∃ i : Nat, i ≤ n ∧ iv = .int .i64 (i : Nat) ∧ Hid (Buf B wr bv (l ++ 91 :: jn (texts (q.take i)))) ∧ Hid (Grw w v wr bv)) (fun _ iv _ => n - (intOf iv).toNat)
  case atStart => exact ⟨0, by omega, rfl, Lib.hid (by simpa [texts, jn] using HB1.out), HG1⟩
  case round =>
    obtain ⟨i, hi, rfl, HB, HG⟩ := hrel
    have hlow := HB0.out.low HG.out
    by_cases hlt : i < n
    · have hil : (i : Int) < (n : Int) := by omega
      have hlt1 : i < q.length := by omega
      obtain ⟨b, o, k, s, m, p, C, cb, rfl, hSb, hx, c0, c1, c2, c3, hrep⟩ := trow_get HTR.out hlow HS.out hlt1
      have hmem : q[i] ∈ q := List.getElem_mem hlt1
      have hszm := szs_mem q _ hmem
      have hW := HIH.out _ hmem
      have hjl := jn_take_len q (i + 1)
      have htl := jn_take_len q i
      obtain ⟨X, hX⟩ : ∃ X, X = wr.alloc (.cells #[.int .i64 k, .string ⟨⟨s⟩⟩, .int .i64 m, .slice C p.length cb] 25) := ⟨_, rfl⟩
      have hbX : Below wr.heap.size wr X := by rw [hX]; exact (Below.refl _ _).alloc (Nat.le_refl _) _
      have hgX : X.heap[wr.heap.size]? = some (.cells #[.int .i64 k, .string ⟨⟨s⟩⟩, .int .i64 m, .slice C p.length cb] 25 (0, 0)) := by rw [hX]; exact heap_alloc_new wr _
      have hBX := HB.out.bel hbX
      have hGX := HG.out.trans (Grw.below hbX)
      by_cases h0 : i = 0
      · have hii : ¬ (0 : Int) < (i : Int) := by omega
        have hj0 : jn (texts (q.take (i + 1))) = text q[i] := by
          subst h0
          exact jn_take_zero q hlt1
        have ht0 : q.take i = [] := by rw [h0]; rfl
        rw [hx] at hj0 hszm hW
        have hcall := hW B (d + 1) (di + 1) S u0 _ _ X (by have := HD.out; omega) (by omega) hBX (rep_at hrep (hbX.mono HB.out.2) HS.out) HS.out (by
          rw [hj0] at hjl
          rw [ht0]
          simp [texts, jn]
          omega) (HT.out.on (HB0.out.low hGX))
        have HC := Lib.hid hcall
        have HX := Lib.hid hX
        have HGX := Lib.hid hGX
        have HJ := Lib.hid hj0
        have HT0 := Lib.hid ht0
        clear hcall hX hGX hBX hbX hgX hj0 hW hszm hmem hrep hx hlow hjl htl ht0 h0
        go_wp2_with fail
        rw [← HX.out]
        refine HC.out.mono ?_
        rintro _ w2 ⟨v2, rfl, hB2, hG2⟩
        have HB2 := Lib.hid hB2
        have HG2 := Lib.hid (HGX.out.trans hG2)
        clear hB2 hG2 HC
        go_wp2
        go_roundw
        case rel => exact ⟨i + 1, by omega, by go_num, Lib.hid (by have := HB2.out; rw [HT0.out] at this; rw [HJ.out]; simpa [texts, jn] using this), HG2⟩
        case measure => simp [intOf]; omega
      · have hipos : 0 < i := by omega
        have hii : (0 : Int) < (i : Int) := by omega
        have hj1 := jn_take_succ q i hlt1 hipos
        rw [hx] at hj1 hszm hW
        rw [hj1] at hjl
        have hbY : Below X.heap.size X (X.alloc (.cells #[.int .u8 32] 5)) := (Below.refl _ _).alloc (Nat.le_refl _) _
        obtain ⟨v2, w2, hr2, hB2, hG2⟩ := run_app (hBX.bel hbY) [32] ⟨X.heap.size, 0, none⟩ 1 (cell_byte X 32) (by simp; omega)
        have hG2' := (hGX.trans (Grw.below hbY)).trans hG2
        have hlow2 := HB0.out.low hG2'
        have hgY : (X.alloc (.cells #[.int .u8 32] 5)).heap[wr.heap.size]? = some (.cells #[.int .i64 k, .string ⟨⟨s⟩⟩, .int .i64 m, .slice C p.length cb] 25 (0, 0)) := (hbY.block _ (Array.getElem?_eq_some_iff.1 hgX).1).trans hgX
        have hgZ := (hG2.keep hgY ((hBX.bel hbY).own hgY (by decide))).1
        obtain ⟨e0, e1, e2, e3⟩ := cell4 hgZ
        have hrow2 := trow_get HTR.out hlow2 HS.out hlt1
        have hrep2 : Rep w2 S (.mk k s m p) (.agg #[.int .i64 k, .string ⟨⟨s⟩⟩, .int .i64 m, .slice C p.length cb]) := rep_keep (fun _ h => h) (fun c o hc => (hlow2.cell (p := ⟨c, o, none⟩) (HS.out c hc)).trans (hlow.cell (p := ⟨c, o, none⟩) (HS.out c hc)).symm) _ _ hrep
        have hcall := hW B (d + 1) (di + 1) S v2 _ _ w2 (by have := HD.out; omega) (by omega) hB2 hrep2 HS.out (by
          simp at hjl ⊢
          omega) (HT.out.on hlow2)
        have hsX : X.heap.size = wr.heap.size + 1 := by rw [hX]; simp
        have HC := Lib.hid hcall
        have HX := Lib.hid hX
        have HGX := Lib.hid hG2'
        have HJ := Lib.hid hj1
        rw [hsX, hX] at hr2
        have HR2 := Lib.hid hr2
        clear hcall hX hGX hBX hbX hgX hj1 hW hszm hmem hrep hx hlow hjl htl hr2 hB2 hG2 hG2' hlow2 hgY hgZ hrow2 hrep2 hbY h0 hsX
        go_wp2_with (at_builtin; refine wpList_append_run _ rfl (.tmp 21) (.tmp 22) 31 31 rfl _ _ rfl rfl HR2.out ?_)
        refine HC.out.mono ?_
        rintro _ w3 ⟨v3, rfl, hB3, hG3⟩
        have HB3 := Lib.hid hB3
        have HG3 := Lib.hid (HGX.out.trans hG3)
        clear hB3 hG3 HC
        go_wp2
        go_roundw
        case rel => exact ⟨i + 1, by omega, by go_num, Lib.hid (by have := HB3.out; rw [HJ.out]; simpa using this), HG3⟩
        case measure => simp [intOf]; omega
    · obtain rfl : i = n := by omega
      have hie : q.take i = q := List.take_of_length_le (by omega)
      have hB := HB.out
      rw [hie] at hB
      obtain ⟨v2, w2, hr2, hB2, hG2⟩ := run_app (hB.bel ((Below.refl _ _).alloc (Nat.le_refl _) (.cells #[.int .u8 93] 5))) [93] ⟨wr.heap.size, 0, none⟩ 1 (cell_byte wr 93) (by simp; omega)
      have HR2 := Lib.hid hr2
      have HB2 := Lib.hid hB2
      have HG2 := Lib.hid ((HG.out.trans (Grw.alloc _ _ (.cells #[.int .u8 93] 5))).trans hG2)
      clear hr2 hB2 hG2 hB hie hlow HB HG
      go_wp2_with (at_builtin; refine wpList_append_run _ rfl (.tmp 30) (.tmp 31) 31 31 rfl _ _ rfl rfl HR2.out ?_)
      go_ret
      refine ⟨_, rfl, ?_, HG2.out⟩
      have := HB2.out
      simpa using this
end Go.Proofs.YticofjbngfjjlaaGreatDoor.Te

/- write, Text. -/

namespace Go.Proofs.YticofjbngfjjlaaGreatDoor.Te
open Go.RowKit
open Tt

set_option maxHeartbeats 1000000 in
set_option maxRecDepth 100000 in
theorem keyedN_any (B : Nat) (di : Int) (k : Int) (hs s : List UInt8) (n : Int) (c ca : Nat) (hc : ¬ (c : Int) = 2) (A : Option Addr) (v : Value) (l : List UInt8) (w : World) (hb : Buf B w v l) (hl : l.length ≤ 999999999000) :
    Calls Tryz.prog 193 #[v, .string ⟨⟨hs⟩⟩, .int .i64 di, .agg #[.int .i64 k, .string ⟨⟨s⟩⟩, .int .i64 n, .slice A c ca]] w fun e w' => ∃ v', e = .returned v' ∧ Buf B w' v' (l ++ [63]) ∧ Grw w v w' v' := by
  have hb1 : Below w.heap.size w (w.alloc (.cells #[.int .i64 k, .string ⟨⟨s⟩⟩, .int .i64 n, .slice A c ca] 25)) := (Below.refl _ _).alloc (Nat.le_refl _) _
  obtain ⟨v1, w1, hr1, hB1, hG1⟩ := run_app ((hb.bel hb1).bel ((Below.refl _ _).alloc (Nat.le_refl _) (.cells #[.int .u8 63] 5))) [63] ⟨_, 0, none⟩ 1 (cell_byte _ 63) (by simp; omega)
  rw [World.size_alloc] at hr1
  have HR1 := Lib.hid hr1
  have HB1 := Lib.hid hB1
  have HG1 := Lib.hid (((Grw.below hb1).trans (Grw.alloc _ v (.cells #[.int .u8 63] 5))).trans hG1)
  clear hr1 hB1 hG1 hb hb1
  go_enter Tryz.func193, Tryz.ntmps193
  go_wp2_with (at_builtin; refine wpList_append_run _ rfl (.tmp 13) (.tmp 14) 31 31 rfl _ _ rfl rfl HR1.out ?_)
  go_ret
  exact ⟨_, rfl, HB1.out, HG1.out⟩

set_option maxHeartbeats 1000000 in
set_option maxRecDepth 100000 in
theorem write0_any (B : Nat) (di : Int) (hd : ¬ (262144 : Int) < di) (s : List UInt8) (n : Int) (c ca : Nat) (A : Option Addr) (v : Value) (l : List UInt8) (w : World) (hb : Buf B w v l) (hl : l.length + s.length ≤ 999999999000) :
    Calls Tryz.prog 165 #[v, .int .i64 di, .agg #[.int .i64 0, .string ⟨⟨s⟩⟩, .int .i64 n, .slice A c ca]] w fun e w' => ∃ v', e = .returned v' ∧ Buf B w' v' (l ++ s) ∧ Grw w v w' v' := by
  have hb1 : Below w.heap.size w (w.alloc (.cells #[.int .i64 0, .string ⟨⟨s⟩⟩, .int .i64 n, .slice A c ca] 25)) := (Below.refl _ _).alloc (Nat.le_refl _) _
  obtain ⟨v1, w1, hr1, hB1, hG1⟩ := run_appS (hb.bel hb1) s (by omega)
  have HR1 := Lib.hid hr1
  have HB1 := Lib.hid hB1
  have HG1 := Lib.hid ((Grw.below hb1).trans hG1)
  clear hr1 hB1 hG1 hb hb1
  go_enter Tryz.func165, Tryz.ntmps165
  go_wp2_with (at_builtin; refine wpList_append_run _ rfl (.tmp 16) (.tmp 18) 31 9 rfl _ _ rfl rfl HR1.out ?_)
  go_ret
  exact ⟨_, rfl, HB1.out, HG1.out⟩

set_option maxHeartbeats 1000000 in
set_option maxRecDepth 100000 in
theorem writeX_any (B : Nat) (di : Int) (hd : ¬ (262144 : Int) < di) (k : Int) (h0 : k ≠ 0) (h1 : k ≠ 1) (h2 : k ≠ 2) (h3 : k ≠ 3) (h4 : k ≠ 4) (h5 : k ≠ 5) (s : List UInt8) (n : Int) (c ca : Nat) (A : Option Addr) (v : Value) (l : List UInt8) (w : World) (hb : Buf B w v l) (hl : l.length ≤ 999999999000) :
    Calls Tryz.prog 165 #[v, .int .i64 di, .agg #[.int .i64 k, .string ⟨⟨s⟩⟩, .int .i64 n, .slice A c ca]] w fun e w' => ∃ v', e = .returned v' ∧ Buf B w' v' (l ++ [63]) ∧ Grw w v w' v' := by
  have hb1 : Below w.heap.size w (w.alloc (.cells #[.int .i64 k, .string ⟨⟨s⟩⟩, .int .i64 n, .slice A c ca] 25)) := (Below.refl _ _).alloc (Nat.le_refl _) _
  obtain ⟨v1, w1, hr1, hB1, hG1⟩ := run_app ((hb.bel hb1).bel ((Below.refl _ _).alloc (Nat.le_refl _) (.cells #[.int .u8 63] 5))) [63] ⟨_, 0, none⟩ 1 (cell_byte _ 63) (by simp; omega)
  rw [World.size_alloc] at hr1
  have HR1 := Lib.hid hr1
  have HB1 := Lib.hid hB1
  have HG1 := Lib.hid (((Grw.below hb1).trans (Grw.alloc _ v (.cells #[.int .u8 63] 5))).trans hG1)
  clear hr1 hB1 hG1 hb hb1
  go_enter Tryz.func165, Tryz.ntmps165
  go_wp2_with (at_builtin; refine wpList_append_run _ rfl (.tmp 60) (.tmp 61) 31 31 rfl _ _ rfl rfl HR1.out ?_)
  go_ret
  exact ⟨_, rfl, HB1.out, HG1.out⟩

/-- The kinds that one call answers. -/
theorem writeC_any (B : Nat) (di : Int) (hd : ¬ (262144 : Int) < di) (k : Int) (s : List UInt8) (n : Int) (c ca : Nat) (A : Option Addr) (v : Value) (R : List UInt8) (w : World)
    (hk : (k = 1 ∧ ∀ W, Below w.heap.size w W → Calls Tryz.prog 191 #[v, .int .i64 n] W fun e w' => ∃ v', e = .returned v' ∧ Buf B w' v' R ∧ Grw W v w' v') ∨
      (k = 3 ∧ ∀ W, Below w.heap.size w W → Calls Tryz.prog 192 #[v, .int .i64 di, .slice A c ca] W fun e w' => ∃ v', e = .returned v' ∧ Buf B w' v' R ∧ Grw W v w' v') ∨
      (k = 4 ∧ ∀ W, Below w.heap.size w W → Calls Tryz.prog 193 #[v, .string ⟨#[115, 101, 97, 108, 40]⟩, .int .i64 di, .agg #[.int .i64 k, .string ⟨⟨s⟩⟩, .int .i64 n, .slice A c ca]] W fun e w' => ∃ v', e = .returned v' ∧ Buf B w' v' R ∧ Grw W v w' v') ∨
      (k = 5 ∧ ∀ W, Below w.heap.size w W → Calls Tryz.prog 193 #[v, .string ⟨#[115, 117, 109, 40]⟩, .int .i64 di, .agg #[.int .i64 k, .string ⟨⟨s⟩⟩, .int .i64 n, .slice A c ca]] W fun e w' => ∃ v', e = .returned v' ∧ Buf B w' v' R ∧ Grw W v w' v')) :
    Calls Tryz.prog 165 #[v, .int .i64 di, .agg #[.int .i64 k, .string ⟨⟨s⟩⟩, .int .i64 n, .slice A c ca]] w fun e w' => ∃ v', e = .returned v' ∧ Buf B w' v' R ∧ Grw w v w' v' := by
  have hb1 : Below w.heap.size w (w.alloc (.cells #[.int .i64 k, .string ⟨⟨s⟩⟩, .int .i64 n, .slice A c ca] 25)) := (Below.refl _ _).alloc (Nat.le_refl _) _
  have HG0 := Lib.hid (Grw.below (v := v) hb1)
  rcases hk with ⟨rfl, hk⟩ | ⟨rfl, hk⟩ | ⟨rfl, hk⟩ | ⟨rfl, hk⟩
  all_goals
    have HC := Lib.hid (hk _ hb1)
    clear hk hb1
    go_enter Tryz.func165, Tryz.ntmps165
    go_wp2_with fail
    refine HC.out.mono ?_
    rintro _ w2 ⟨v2, rfl, hB2, hG2⟩
    have HB2 := Lib.hid hB2
    have HG2 := Lib.hid (HG0.out.trans hG2)
    clear hB2 hG2 HC
    go_wp2
    go_ret
    exact ⟨v2, rfl, HB2.out, HG2.out⟩

theorem ky_two (h : List UInt8) (n : Int) (q : List Tm) (h2 : q.length = 2) : ∃ x y, q = [x, y] ∧ ky h n (texts q) = h ++ text x ++ 32 :: (Lib.itoa n ++ 32 :: (text y ++ [41])) := by
  match q, h2 with
  | [x, y], _ => exact ⟨x, y, rfl, by simp [texts, ky]⟩
theorem ky_not (h : List UInt8) (n : Int) (q : List Tm) (h2 : q.length ≠ 2) : ky h n (texts q) = [63] := by
  match q, h2 with
  | [], _ => simp [texts, ky]
  | [x], _ => simp [texts, ky]
  | [x, y], h => simp at h
  | x :: y :: u :: r, _ => simp [texts, ky]

theorem write_any : ∀ x, WriteSaid x := Tm.ind (by
  intro k s n q ih B d di S v vx l w hdi hsz hb hr hS hl htab
  obtain ⟨A, ca, rfl, hn, hrow⟩ := rep_mk.1 hr
  rw [sz] at hsz
  rw [text] at hl ⊢
  have hdl : ¬ (262144 : Int) < di := by omega
  have hlow : ∀ {W}, Below w.heap.size w W → Below B w W := fun h => h.mono hb.2
  have hkey : ∀ (hh : List UInt8), l.length + (ky hh n (texts q)).length ≤ 999999999000 → hh.length ≤ 5 → ∀ W, Below w.heap.size w W → Calls Tryz.prog 193 #[v, .string ⟨⟨hh⟩⟩, .int .i64 di, .agg #[.int .i64 k, .string ⟨⟨s⟩⟩, .int .i64 n, .slice A q.length ca]] W fun e w' => ∃ v', e = .returned v' ∧ Buf B w' v' (l ++ ky hh n (texts q)) ∧ Grw W v w' v' := by
    intro hh hlen hh5 W hW
    by_cases h2 : q.length = 2
    · obtain ⟨x, y, rfl, e⟩ := ky_two hh n q h2
      rw [szs, szs, szs] at hsz
      rw [e] at hlen ⊢
      simp only [List.length_append, List.length_cons, List.length_nil] at hlen
      exact keyed_any x y (ih x (by simp)) (ih y (by simp)) B d di hdi (by omega) (by omega) k hh s n hn ca A S v l W (hb.bel hW) (trow_at hrow (hlow hW) hS) hS (by omega) (htab.on (hlow hW))
    · rw [ky_not hh n q h2]
      exact keyedN_any B di k hh s n q.length ca (by omega) A v l W (hb.bel hW) (by omega)
  unfold tx at hl ⊢
  by_cases h0 : k = 0
  · subst h0
    simp only [if_true] at hl ⊢
    exact write0_any B di hdl s n q.length ca A v l w hb hl
  by_cases h1 : k = 1
  · subst h1
    simp only [if_true, if_neg h0] at hl ⊢
    exact writeC_any B di hdl 1 s n q.length ca A v _ w (.inl ⟨rfl, fun W hW => number_any B n hn v l W (hb.bel hW) (by omega) (htab.on (hlow hW))⟩)
  by_cases h2 : k = 2
  · subst h2
    simp only [if_true, if_neg h0, if_neg h1] at hl ⊢
    refine writeK_any B di hdl s n hn q.length ca A v l w hb ?_ htab
    simp at hl
    omega
  by_cases h3 : k = 3
  · subst h3
    simp only [if_true, if_neg h0, if_neg h1, if_neg h2] at hl ⊢
    simp at hl
    exact writeC_any B di hdl 3 s n q.length ca A v _ w (.inr (.inl ⟨rfl, fun W hW => list_any q ih B d di hdi (by omega) ca A S v l W (hb.bel hW) (trow_at hrow (hlow hW) hS) hS (by omega) (htab.on (hlow hW))⟩))
  by_cases h4 : k = 4
  · subst h4
    simp only [if_true, if_neg h0, if_neg h1, if_neg h2, if_neg h3] at hl ⊢
    exact writeC_any B di hdl 4 s n q.length ca A v _ w (.inr (.inr (.inl ⟨rfl, hkey [115, 101, 97, 108, 40] hl (by simp)⟩)))
  by_cases h5 : k = 5
  · subst h5
    simp only [if_true, if_neg h0, if_neg h1, if_neg h2, if_neg h3, if_neg h4] at hl ⊢
    exact writeC_any B di hdl 5 s n q.length ca A v _ w (.inr (.inr (.inr ⟨rfl, hkey [115, 117, 109, 40] hl (by simp)⟩)))
  simp only [if_neg h0, if_neg h1, if_neg h2, if_neg h3, if_neg h4, if_neg h5] at hl ⊢
  exact writeX_any B di hdl k h0 h1 h2 h3 h4 h5 s n q.length ca A v l w hb (by omega))

theorem Buf.conv {B : Nat} {w : World} {v : Value} {l : List UInt8} (h : Buf B w v l) : (convert 31 9 v).run Tryz.prog w = .ok (.string ⟨⟨l⟩⟩) w := by
  rcases h.1.2 with ⟨rfl, h0⟩ | ⟨g, cap, cur, rfl, hbg, hgc, hnc, hcm, hcs, htake⟩
  · obtain rfl : l = [] := List.eq_nil_of_length_eq_zero h0
    rw [run_convert_bytes_string w 31 9 5 none _ _ Tryz.underlying31 Tryz.underlying5 Tryz.underlying9]
    rfl
  · exact run_convert_bytes_back (P := Tryz.prog) w 31 9 5 ⟨g, 0, none⟩ cap l Tryz.underlying31 Tryz.underlying5 Tryz.underlying9 (fun j hj => by
      have := h.1.cells (g := g) rfl j (.int .u8 (l[j].toNat : Nat)) (by rw [Lib.byteCells, List.getElem?_map, List.getElem?_eq_getElem hj]; rfl)
      exact this)

set_option maxHeartbeats 400000 in
set_option maxRecDepth 100000 in
theorem Text_any (x : Tm) (S : Nat → Prop) (vx : Value) (w : World) (hsz : sz x ≤ 262144) (hr : Rep w S x vx) (hS : ∀ b, S b → b < w.heap.size) (hl : (text x).length ≤ 999999999000) (htab : TabB w.heap.size w) :
    Calls Tryz.prog 136 #[vx] w fun e w' => e = .returned (.string ⟨⟨text x⟩⟩) ∧ Below w.heap.size w w' := by
  have hw := fun W h1 h2 => write_any x w.heap.size 0 0 S (.slice none 0 0) vx [] W rfl (by omega) h1 h2 hS
  obtain ⟨T, hT⟩ : ∃ T, T = text x := ⟨_, rfl⟩
  rw [← hT] at hw hl ⊢
  clear hT
  obtain ⟨k, s, n, q⟩ := x
  have hr0 := hr
  obtain ⟨A, ca, rfl, -, -⟩ := rep_mk.1 hr
  have hb1 : Below w.heap.size w (w.alloc (.cells #[.int .i64 k, .string ⟨⟨s⟩⟩, .int .i64 n, .slice A q.length ca] 25)) := (Below.refl _ _).alloc (Nat.le_refl _) _
  have hB0 := Buf.nil (w.alloc (.cells #[.int .i64 k, .string ⟨⟨s⟩⟩, .int .i64 n, .slice A q.length ca] 25)) w.heap.size hb1.size
  have HW := Lib.hid (hw _ hB0 (rep_below hr0 hb1 hS) (by simpa using hl) (htab.on hb1))
  have HB0 := Lib.hid hB0
  have HB1 := Lib.hid hb1
  clear hw hr hr0 hS htab hb1 hB0 hsz
  go_enter Tryz.func136, Tryz.ntmps136
  go_wp2_with fail
  refine HW.out.mono ?_
  rintro _ w2 ⟨v2, rfl, hB2, hG2⟩
  have hcv := hB2.conv
  rw [List.nil_append] at hcv
  have HL := Lib.hid (HB1.out.trans (HB0.out.low hG2))
  clear hB2 hG2 HW
  go_wp2
  go_ret
  exact ⟨rfl, HL.out⟩
end Go.Proofs.YticofjbngfjjlaaGreatDoor.Te

/- parts: a function to range over that calls itself; what a round must keep. -/

namespace Go.Proofs.YticofjbngfjjlaaGreatDoor.Te
open Go.RowKit Go.Shelf
open Tt
attribute [local go_sem] Oper.semAt_some

theorem yield_wide {P : Program} {m m' l : Nat} {args : Array Value} {W : World} {R : Ending → World → Prop} (h : YieldAt Fence.wide m P l args W R) : YieldAt Fence.wide m' P l args W R := by
  obtain ⟨fn, tmps, assign, body, hy, hR⟩ := h
  exact ⟨fn, tmps, assign, body, hy, hR.1, fun c cs _ => hR.2 c cs (room_wide _)⟩

/-! ### What a round keeps: all but the box B and the row that it holds. -/
def rowAt (W : World) (B : Nat) : Option Nat := (W.cell? ⟨B, 0, none⟩).bind Value.ownBlock
def Mine (B : Nat) (W : World) (b : Nat) : Prop := b = B ∨ rowAt W B = some b
def Va (B : Nat) (W : World) : Prop := B < W.heap.size ∧ ∀ b, rowAt W B = some b → b < W.heap.size
structure Kps (n0 B : Nat) (W W' : World) : Prop where
  below : Below n0 W W'
  keep : ∀ b o, W.heap[b]? = some o → o.isCells = true → ¬ Mine B W b → W'.heap[b]? = some o
  mine : ∀ b, b < W.heap.size → Mine B W' b → Mine B W b
  va : Va B W → Va B W'

theorem some_lt {W : World} {b : Nat} {o : Obj} (h : W.heap[b]? = some o) : b < W.heap.size := (Array.getElem?_eq_some_iff.1 h).1
theorem Kps.refl (n0 B : Nat) (W : World) : Kps n0 B W W := ⟨Below.refl _ _, fun _ _ h _ _ => h, fun _ _ h => h, fun h => h⟩
theorem Kps.trans {n0 B : Nat} {A C D : World} (h : Kps n0 B A C) (k : Kps n0 B C D) : Kps n0 B A D :=
  ⟨h.below.trans k.below, fun b o hb ho hm => k.keep b o (h.keep b o hb ho hm) ho (fun hc => hm (h.mine b (some_lt hb) hc)),
   fun b hb hm => h.mine b hb (k.mine b (Nat.lt_of_lt_of_le hb h.below.size) hm), fun hv => k.va (h.va hv)⟩
theorem rowAt_eq {W W' : World} {B : Nat} (h : W'.heap[B]? = W.heap[B]?) : rowAt W' B = rowAt W B := by
  unfold rowAt
  rw [World.cell?_of_block (a := ⟨B, 0, none⟩) h]
theorem Kps.of_below {n0 B : Nat} {W W' : World} (h : Below W.heap.size W W') (hB : B < W.heap.size) (hn : n0 ≤ W.heap.size) : Kps n0 B W W' := by
  have hr := rowAt_eq (h.block B hB)
  refine ⟨h.mono hn, fun b o hb _ _ => (h.block b (some_lt hb)).trans hb, fun b _ hm => ?_, fun hv => ⟨Nat.lt_of_lt_of_le hB h.size, fun b hb => ?_⟩⟩
  · rw [Mine, hr] at hm; exact hm
  · rw [hr] at hb; exact Nat.lt_of_lt_of_le (hv.2 b hb) h.size
theorem Kps.putObj {n0 B n : Nat} (hB : B < n) (hn : n0 ≤ n) (W : World) (l : Nat) (o o' : Obj) (hl : n ≤ l) (h : W.heap[l]? = some o) (ho : o.isCells = false) (_ : o.isWalk = false) : Kps n0 B W (W.putObj l o') := by
  have hr : rowAt (W.putObj l o') B = rowAt W B := rowAt_eq (World.putObj_heap_other (by omega))
  have hlt := some_lt h
  have hsz : (W.putObj l o').heap.size = W.heap.size := by simp
  refine ⟨(Below.refl n0 W).grown (grownBy_putObj' W l o') (by omega) (fun k e => by cases e; omega), fun b q hb hq _ => ?_, fun b _ hm => ?_, fun hv => ⟨by rw [hsz]; omega, fun b hb => ?_⟩⟩
  · rw [World.putObj_heap_other (fun e => by subst e; rw [h] at hb; cases hb; rw [ho] at hq; cases hq)]; exact hb
  · rw [Mine, hr] at hm; exact hm
  · rw [hr] at hb; rw [hsz]; exact hv.2 b hb
theorem Kps.boxed {n0 B : Nat} {W W' : World} {b : Nat} {t : TypeId} {v : Value} (h : Kps n0 B W W') (hb : Boxed W b t v) (hm : ¬ Mine B W b) : Boxed W' b t v ∧ ¬ Mine B W' b :=
  ⟨h.keep b _ hb rfl hm, fun hc => hm (h.mine b hb.lt hc)⟩
theorem not_mine {B : Nat} {W W' : World} {b : Nat} (hv : Va B W) (hb : Below W.heap.size W W') (hlt : W.heap.size ≤ b) : ¬ Mine B W' b := by
  rintro (rfl | h)
  · have := hv.1; omega
  · rw [rowAt_eq (hb.block B hv.1)] at h
    have := hv.2 b h
    omega

/-- What is told: in how many others, which term, its value. -/
abbrev El (w0 : World) (S : Nat → Prop) := { p : Nat × Tm × Value // Rep w0 S p.2.1 p.2.2 ∧ p.1 ≤ 262144 }
def El.pr {w0 : World} {S : Nat → Prop} (p : El w0 S) : Nat × Tm := (p.1.1, p.1.2.1)
def El.enc {w0 : World} {S : Nat → Prop} (p : El w0 S) : Array Value := #[.int .i64 (p.1.1 : Nat), p.1.2.2]

section
variable (w0 : World) (S : Nat → Prop) (B : Nat)
/-- What a call of yield answers. -/
def YieldsSaid (l N : Nat) (J Jx : List (El w0 S) → World → Prop) : Prop :=
  ∀ pre x W1, J pre W1 → pre.length < N → YieldAt Fence.wide 0 Tryz.prog l x.enc W1 fun e W' =>
    (e = .returned (.bool true) ∧ J (pre ++ [x]) W' ∧ Kps w0.heap.size B W1 W') ∨ (e = .returned (.bool false) ∧ Jx (pre ++ [x]) W')
def TellSaid (x : Tm) : Prop := ∀ (n d : Nat) (di : Int) (l : Nat) (v : Value) (J Jx : List (El w0 S) → World → Prop) (N Z : Nat) (pre : List (El w0 S)) (W : World),
  1 ≤ n → di = d → d + sz x ≤ 262144 → Rep w0 S x v → Below w0.heap.size w0 W → Va B W → AbidesFrom Z J → YieldsSaid w0 S B l N J Jx → pre.length + sz x ≤ N → J pre W →
  CallsIn Fence.wide n Tryz.prog 91 #[.int .i64 di, v, .func (.yield l) #[] #[]] W fun e W' => ∃ b, e = .returned (.bool b) ∧
    ((b = true ∧ ∃ ys, ys.map El.pr = parts d x ∧ J (pre ++ ys) W' ∧ Kps w0.heap.size B W W') ∨ (b = false ∧ ∃ ys, ys.map El.pr <+: parts d x ∧ Jx (pre ++ ys) W'))
end

section
variable {w0 : World} {S : Nat → Prop} {B : Nat}
set_option maxRecDepth 100000 in
set_option maxHeartbeats 1000000 in
theorem tell1_any (x : Tm) (hx : TellSaid w0 S B x) (n d : Nat) (di : Int) (l bi by' : Nat) (v : Value) (J Jx : List (El w0 S) → World → Prop) (N Z : Nat) (pre : List (El w0 S)) (W : World)
    (hn : 1 ≤ n) (hdi : di = d) (hd : d + 1 + sz x ≤ 262144) (hr : Rep w0 S x v) (hb0 : Below w0.heap.size w0 W) (hv : Va B W) (hJ : AbidesFrom Z J) (hY : YieldsSaid w0 S B l N J Jx) (hl : pre.length + sz x ≤ N) (h0 : J pre W)
    (hi : Boxed W bi 3 (.int .i64 di)) (hy : Boxed W by' 82 (.func (.yield l) #[] #[])) :
    CallsIn Fence.wide n Tryz.prog 121 #[v, .pointer (some ⟨bi, 0, none⟩), .pointer (some ⟨by', 0, none⟩)] W fun e W' => ∃ b, e = .returned (.bool b) ∧
    ((b = false ∧ ∃ ys, ys.map El.pr = parts (d + 1) x ∧ J (pre ++ ys) W' ∧ Kps w0.heap.size B W W') ∨ (b = true ∧ ∃ ys, ys.map El.pr <+: parts (d + 1) x ∧ Jx (pre ++ ys) W')) := by
  obtain ⟨k, s, m, q⟩ := x
  have hr0 := hr
  obtain ⟨A, ca, rfl, hm, hrow⟩ := rep_mk.1 hr
  have HB : Hid (Below W.heap.size W (W.alloc (.cells #[.int .i64 k, .string ⟨⟨s⟩⟩, .int .i64 m, .slice A q.length ca] 25))) := (Below.refl _ _).alloc (Nat.le_refl _) _
  have hK := Kps.of_below HB.out hv.1 (hb0.size)
  have hi1 := (hi.alloc (.cells #[.int .i64 k, .string ⟨⟨s⟩⟩, .int .i64 m, .slice A q.length ca] 25)).cell
  have hy1 := (hy.alloc (.cells #[.int .i64 k, .string ⟨⟨s⟩⟩, .int .i64 m, .slice A q.length ca] 25)).cell
  have hJ1 : J pre (W.alloc (.cells #[.int .i64 k, .string ⟨⟨s⟩⟩, .int .i64 m, .slice A q.length ca] 25)) := hJ pre W _ none h0 (World.grownBy_alloc W _ none) (fun r e => by cases e)
  have hcall := Lib.hid (hx n (d + 1) (di + 1) l _ J Jx N Z pre _ hn (by omega) hd hr0 (hb0.trans hK.below) (hK.va hv) hJ hY hl hJ1)
  have hdl : di ≤ 262144 ∧ 0 ≤ di := by omega
  have hbi := hi.lt
  have hby := hy.lt
  have HK := Lib.hid hK
  clear hr0 hr hm hrow hb0 hv hJ hY hl h0 hi hy hJ1 hx hdi hd hK
  refine callsIn_of_wp Tryz.func121 rfl trivial ?_ rfl
  simp only [Tryz.ntmps121, List.size_toArray, List.length_cons, List.length_nil, Nat.reduceAdd, Nat.reduceSub, Array.replicate_succ, Array.replicate_zero, List.push_toArray, List.append_toArray, List.nil_append, List.cons_append]
  gi_wp2_with (refine ⟨trivial, ?_⟩; gi_at_call 91; refine (callsIn_wide.2 (callsIn_wide.1 hcall.out)).mono ?_; rintro _ w1 ⟨b, rfl, hb⟩)
  refine bodyPost_ret (results_tmp rfl _ _ _) rfl ?_
  refine ⟨!b, rfl, ?_⟩
  rcases hb with ⟨rfl, ys, h1, h2, h3⟩ | ⟨rfl, ys, h1, h2⟩
  · exact .inl ⟨rfl, ys, h1, h2, HK.out.trans h3⟩
  · exact .inr ⟨rfl, ys, h1, h2⟩

set_option maxRecDepth 100000 in
set_option maxHeartbeats 1000000 in
theorem tellIndex_any (q : List Tm) (ih : ∀ x ∈ q, TellSaid w0 S B x) (n d : Nat) (di : Int) (l bi by' : Nat) (A : Option Addr) (ca : Nat) (J Jx : List (El w0 S) → World → Prop) (N Z : Nat) (pre : List (El w0 S)) (W : World)
    (hn : 1 ≤ n) (hdi : di = d) (hd : d + 1 + szs q ≤ 262144) (hS : ∀ b, S b → b < w0.heap.size) (hr : TRow w0 S q A) (hb0 : Below w0.heap.size w0 W) (hv : Va B W) (hJ : AbidesFrom Z J) (hY : YieldsSaid w0 S B l N J Jx) (hl : pre.length + szs q ≤ N) (h0 : J pre W)
    (hi : Boxed W bi 3 (.int .i64 di)) (hy : Boxed W by' 82 (.func (.yield l) #[] #[])) (hmi : ¬ Mine B W bi) (hmy : ¬ Mine B W by') :
    CallsIn Fence.wide n Tryz.prog 153 #[.slice A q.length ca, .func (.func 121) #[] #[.pointer (some ⟨bi, 0, none⟩), .pointer (some ⟨by', 0, none⟩)]] W fun e W' => ∃ r : Int, e = .returned (.int .i64 r) ∧
    ((r = -1 ∧ ∃ ys, ys.map El.pr = partss (d + 1) q ∧ J (pre ++ ys) W' ∧ Kps w0.heap.size B W W') ∨ (0 ≤ r ∧ ∃ ys, ys.map El.pr <+: partss (d + 1) q ∧ Jx (pre ++ ys) W')) := by
  have hql := szs_len q
  have HIH := Lib.hid ih
  have HR := Lib.hid hr
  have HS := Lib.hid hS
  have HI := Lib.hid hi
  have HY := Lib.hid hy
  have HMI := Lib.hid hmi
  have HMY := Lib.hid hmy
  have HD := Lib.hid hdi
  have HV := Lib.hid hv
  have HB0 := Lib.hid hb0
  have HJ := Lib.hid hJ
  have HYS := Lib.hid hY
  clear ih hr hS hi hy hmi hmy hdi hv hb0 hJ hY
  refine callsIn_of_wp Tryz.func153 rfl trivial ?_ rfl
  simp only [Tryz.ntmps153, List.size_toArray, List.length_cons, List.length_nil, Nat.reduceAdd, Nat.reduceSub, Array.replicate_succ, Array.replicate_zero, List.push_toArray, List.append_toArray, List.nil_append, List.cons_append]
  gi_wp2
  gi_loopw [8] (fun iv wr => ∃ i : Nat, i ≤ q.length ∧ iv = .int .i64 (i : Nat) ∧ Hid (∃ ys, ys.map El.pr = partss (d + 1) (q.take i) ∧ J (pre ++ ys) wr ∧ Kps w0.heap.size B W wr)) (fun iv _ => q.length - (intOf iv).toNat)
  case atStart => exact ⟨0, by omega, rfl, Lib.hid ⟨[], by simp [partss], by simpa using h0, Kps.refl _ _ _⟩⟩
  case round =>
    obtain ⟨i, hi, rfl, HI2⟩ := hrel
    obtain ⟨ys, hys, hJs, hKs⟩ := HI2.out
    by_cases hlt : i < q.length
    · obtain ⟨b, o, k, s, m, p, C, cb, rfl, hSb, hx, d0, d1, d2, d3, hrep⟩ := trow_get HR.out (Below.refl _ _) HS.out hlt
      have hbw := HB0.out.trans hKs.below
      have hbS := HS.out b hSb
      have c0 := (hbw.cell (p := ⟨b, o + i * 4, none⟩) hbS).trans d0
      have c1 := (hbw.cell (p := ⟨b, o + i * 4 + 1, none⟩) hbS).trans d1
      have c2 := (hbw.cell (p := ⟨b, o + i * 4 + 2, none⟩) hbS).trans d2
      have c3 := (hbw.cell (p := ⟨b, o + i * 4 + 3, none⟩) hbS).trans d3
      have hil : (i : Int) < (q.length : Int) := by omega
      have hmem : q[i] ∈ q := List.getElem_mem hlt
      have hszm := szs_mem q _ hmem
      have hylen : ys.length = szs (q.take i) := by rw [← partss_len (d + 1), ← hys]; simp
      have hts := szs_take_succ q i hlt
      have htl := szs_take_le q (i + 1)
      have hpt := partss_take_succ (d + 1) q i hlt
      have hih := HIH.out _ hmem
      have hpfx : partss (d + 1) (q.take (i + 1)) <+: partss (d + 1) q := by
        have := partss_app (d + 1) (q.take (i + 1)) (q.drop (i + 1))
        rw [List.take_append_drop] at this
        exact ⟨_, this.symm⟩
      rw [hx] at hih hszm hts hpt
      obtain ⟨hi1, hmi1⟩ := hKs.boxed HI.out HMI.out
      obtain ⟨hy1, hmy1⟩ := hKs.boxed HY.out HMY.out
      have hcall := Lib.hid (tell1_any (.mk k s m p) hih n d di l bi by' _ J Jx N Z (pre ++ ys) wr hn HD.out (by omega) hrep hbw (hKs.va HV.out) HJ.out HYS.out (by rw [List.length_append]; omega) hJs hi1 hy1)
      have HPT := Lib.hid hpt
      have HPF := Lib.hid hpfx
      have HYE := Lib.hid hys
      have HKS := Lib.hid hKs
      clear hpt hpfx hys hKs hih hrep d0 d1 d2 d3 hbw hi1 hmi1 hy1 hmy1 hJs hmem hx hts htl hszm hylen HI2 h0
      gi_wp2_with (refine ⟨trivial, ?_⟩; gi_at_call 121; refine (callsIn_wide.2 (callsIn_wide.1 hcall.out)).mono ?_; rintro _ w1 ⟨b1, rfl, hb1⟩)
      · have hbt : b1 = true := by assumption
        rcases hb1 with ⟨hb, -⟩ | ⟨-, zs, e1, e2⟩
        · rw [hb] at hbt; cases hbt
        · refine bodyPost_ret (results_tmp rfl _ _ _) rfl ?_
          refine ⟨i, rfl, .inr ⟨by omega, ys ++ zs, ?_, by rw [← List.append_assoc]; exact e2⟩⟩
          obtain ⟨t1, ht1⟩ := e1
          obtain ⟨t2, ht2⟩ := HPF.out
          exact ⟨t1 ++ t2, by rw [← ht2, HPT.out, ← ht1, List.map_append, HYE.out]; simp⟩
      · have hbt : b1 = false := by first | assumption | (simpa using (by assumption : ¬ b1 = true))
        rcases hb1 with ⟨-, zs, e1, e2, e3⟩ | ⟨hb, -⟩
        · go_roundw
          case rel => exact ⟨i + 1, by omega, by go_num, Lib.hid ⟨ys ++ zs, by rw [HPT.out, List.map_append, HYE.out, e1], by rw [← List.append_assoc]; exact e2, HKS.out.trans e3⟩⟩
          case measure => simp [intOf]; omega
        · rw [hb] at hbt; cases hbt
    · have hie : q.take i = q := List.take_of_length_le (by omega)
      rw [hie] at hys
      clear HI2
      gi_wp2
      refine bodyPost_ret (results_tmp rfl _ _ _) rfl ?_
      exact ⟨-1, rfl, .inl ⟨rfl, ys, hys, hJs, hKs⟩⟩

set_option maxRecDepth 100000 in
set_option maxHeartbeats 1000000 in
theorem tellSome_any (q : List Tm) (ih : ∀ x ∈ q, TellSaid w0 S B x) (n d : Nat) (di : Int) (l bi by' : Nat) (A : Option Addr) (ca : Nat) (J Jx : List (El w0 S) → World → Prop) (N Z : Nat) (pre : List (El w0 S)) (W : World)
    (hn : 1 ≤ n) (hdi : di = d) (hd : d + 1 + szs q ≤ 262144) (hS : ∀ b, S b → b < w0.heap.size) (hr : TRow w0 S q A) (hb0 : Below w0.heap.size w0 W) (hv : Va B W) (hJ : AbidesFrom Z J) (hY : YieldsSaid w0 S B l N J Jx) (hl : pre.length + szs q ≤ N) (h0 : J pre W)
    (hi : Boxed W bi 3 (.int .i64 di)) (hy : Boxed W by' 82 (.func (.yield l) #[] #[])) (hmi : ¬ Mine B W bi) (hmy : ¬ Mine B W by') :
    CallsIn Fence.wide n Tryz.prog 122 #[.slice A q.length ca, .func (.func 121) #[] #[.pointer (some ⟨bi, 0, none⟩), .pointer (some ⟨by', 0, none⟩)]] W fun e W' => ∃ b, e = .returned (.bool b) ∧
    ((b = false ∧ ∃ ys, ys.map El.pr = partss (d + 1) q ∧ J (pre ++ ys) W' ∧ Kps w0.heap.size B W W') ∨ (b = true ∧ ∃ ys, ys.map El.pr <+: partss (d + 1) q ∧ Jx (pre ++ ys) W')) := by
  have hcall := Lib.hid (tellIndex_any q ih n d di l bi by' A ca J Jx N Z pre W hn hdi hd hS hr hb0 hv hJ hY hl h0 hi hy hmi hmy)
  clear ih hdi hd hS hr hb0 hv hJ hY hl h0 hi hy hmi hmy
  refine callsIn_of_wp Tryz.func122 rfl trivial ?_ rfl
  simp only [Tryz.ntmps122, List.size_toArray, List.length_cons, List.length_nil, Nat.reduceAdd, Nat.reduceSub, Array.replicate_succ, Array.replicate_zero, List.push_toArray, List.append_toArray, List.nil_append, List.cons_append]
  gi_wp2_with (refine ⟨trivial, ?_⟩; gi_at_call 153; refine (callsIn_wide.2 (callsIn_wide.1 hcall.out)).mono ?_; rintro _ w1 ⟨r, rfl, hr⟩)
  refine bodyPost_ret (results_tmp rfl _ _ _) rfl ?_
  refine ⟨decide (0 ≤ r), rfl, ?_⟩
  rcases hr with ⟨rfl, hx⟩ | ⟨hr, hx⟩
  · exact .inl ⟨rfl, hx⟩
  · exact .inr ⟨by simpa using hr, hx⟩

set_option maxRecDepth 100000 in
set_option maxHeartbeats 1000000 in
theorem tell_any (hS : ∀ b, S b → b < w0.heap.size) : ∀ x, TellSaid w0 S B x := Tm.ind (by
  intro k s m q ih n d di l v J Jx N Z pre W hn hdi hd hr hb0 hv hJ hY hl h0
  have hr0 := hr
  obtain ⟨A, ca, rfl, hm, hrow⟩ := rep_mk.1 hr
  rw [sz] at hd hl
  obtain ⟨W3, hW3⟩ : ∃ W3, W3 = ((W.alloc (.cells #[.int .i64 di] 3)).alloc (.cells #[.int .i64 k, .string ⟨⟨s⟩⟩, .int .i64 m, .slice A q.length ca] 25)).alloc (.cells #[.func (.yield l) #[] #[]] 82) := ⟨_, rfl⟩
  have hB3 : Below W.heap.size W W3 := by rw [hW3]; exact (((Below.refl _ _).alloc (Nat.le_refl _) _).alloc (by simp) _).alloc (by simp; omega) _
  have hK3 := Kps.of_below hB3 hv.1 (hb0.size)
  have bI : Boxed W3 W.heap.size 3 (.int .i64 di) := by rw [hW3]; exact ((Boxed.new W 3 _).alloc _).alloc _
  have bT : W3.heap[W.heap.size + 1]? = some (.cells #[.int .i64 k, .string ⟨⟨s⟩⟩, .int .i64 m, .slice A q.length ca] 25 (0, 0)) := by
    rw [hW3, heap_alloc_old _ _ (by simp)]
    have := heap_alloc_new (W.alloc (.cells #[.int .i64 di] 3)) (.cells #[.int .i64 k, .string ⟨⟨s⟩⟩, .int .i64 m, .slice A q.length ca] 25)
    rwa [World.size_alloc] at this
  have bY : Boxed W3 (W.heap.size + 2) 82 (.func (.yield l) #[] #[]) := by
    have := Boxed.new ((W.alloc (.cells #[.int .i64 di] 3)).alloc (.cells #[.int .i64 k, .string ⟨⟨s⟩⟩, .int .i64 m, .slice A q.length ca] 25)) 82 (.func (.yield l) #[] #[])
    rw [World.size_alloc, World.size_alloc] at this
    rw [hW3]; exact this
  have nI : ¬ Mine B W3 W.heap.size := not_mine hv hB3 (Nat.le_refl _)
  have nT : ¬ Mine B W3 (W.heap.size + 1) := not_mine hv hB3 (by omega)
  have nY : ¬ Mine B W3 (W.heap.size + 2) := not_mine hv hB3 (by omega)
  have hJ3 : J pre W3 := hJ pre W W3 none h0 (by rw [hW3]; exact (((World.grownBy_alloc W _ none).trans (World.grownBy_alloc _ _ none)).trans (World.grownBy_alloc _ _ none))) (fun r e => by cases e)
  have hrow3 := hrow
  have hnI := some_lt bI
  obtain ⟨E, hEp, hEe⟩ : ∃ E : El w0 S, E.pr = (d, .mk k s m q) ∧ E.enc = #[.int .i64 di, .agg #[.int .i64 k, .string ⟨⟨s⟩⟩, .int .i64 m, .slice A q.length ca]] :=
    ⟨⟨(d, .mk k s m q, .agg #[.int .i64 k, .string ⟨⟨s⟩⟩, .int .i64 m, .slice A q.length ca]), hr0, by show d ≤ 262144; omega⟩, rfl, by rw [hdi]; rfl⟩
  obtain ⟨fn, tmps, assign, body, hy, hR⟩ := yield_wide (m' := n - 1) (hY pre E W3 hJ3 (by omega))
  rw [hEe] at hy
  have HCALL : Hid (∀ w1, J (pre ++ [E]) w1 → Kps w0.heap.size B W3 w1 → w1.heap[W.heap.size + 1]? = some (.cells #[.int .i64 k, .string ⟨⟨s⟩⟩, .int .i64 m, .slice A q.length ca] 25 (0, 0)) ∧ _) :=
    fun w1 h1 h2 => ⟨h2.keep _ _ bT rfl nT, tellSome_any q ih n d di l W.heap.size (W.heap.size + 2) A ca J Jx N Z _ w1 hn hdi (by omega) hS hrow3 ((hb0.trans hK3.below).trans h2.below) (h2.va (hK3.va hv)) hJ hY (by rw [List.length_append, List.length_singleton]; omega) h1 (h2.boxed bI nI).1 (h2.boxed bY nY).1 (h2.boxed bI nI).2 (h2.boxed bY nY).2⟩
  have HR := Lib.hid hR
  have hdl : di ≤ 262144 ∧ 0 ≤ di := by omega
  have cI := bI.cell
  have cY := bY.cell
  obtain ⟨c0, c1, c2, c3⟩ := cell4 bT
  have HW3 := Lib.hid hW3
  have HK3 := Lib.hid hK3
  clear ih hr hr0 hm hrow hrow3 hb0 hv hJ hY hl h0 hd hdi hB3 hK3 bI bT bY nI nT nY hJ3 hnI hEe hR
  refine callsIn_of_wp Tryz.func91 rfl trivial ?_ rfl
  simp only [Tryz.ntmps91, List.size_toArray, List.length_cons, List.length_nil, Nat.reduceAdd, Nat.reduceSub, Array.replicate_succ, Array.replicate_zero, List.push_toArray, List.append_toArray, List.nil_append, List.cons_append]
  subst hW3
  gi_wp2_with fail
  refine HR.out.mono ?_
  rintro _ w1 (⟨rfl, h1, h2⟩ | ⟨rfl, h1⟩)
  · obtain ⟨bT, hc⟩ := HCALL.out w1 h1 h2
    have hcall := Lib.hid hc
    have e0 := (cell4 bT).2.2.2
    have hlt := some_lt bT
    have H2 := Lib.hid h2
    clear hc h1 h2 HCALL HR hy cI cY c0 c1 c2 c3
    gi_wp2_with (refine ⟨trivial, ?_⟩; gi_at_call 122; refine (callsIn_wide.2 (callsIn_wide.1 hcall.out)).mono ?_; rintro _ w2 ⟨b, rfl, hb⟩)
    refine bodyPost_ret (results_tmp rfl _ _ _) rfl ?_
    refine ⟨!b, rfl, ?_⟩
    rcases hb with ⟨rfl, ys, h1, h2, h3⟩ | ⟨rfl, ys, h1, h2⟩
    · exact .inl ⟨rfl, E :: ys, by rw [List.map_cons, hEp, h1, parts], by simpa using h2, (HK3.out.trans H2.out).trans h3⟩
    · refine .inr ⟨rfl, E :: ys, ?_, by simpa using h2⟩
      obtain ⟨t, ht⟩ := h1
      exact ⟨t, by rw [List.map_cons, hEp, parts, ← ht]; rfl⟩
  · clear HCALL HR hy cI cY c0 c1 c2 c3
    gi_wp2
    refine ⟨trivial, ?_⟩
    gi_wp2
    refine bodyPost_ret (results_tmp rfl _ _ _) rfl ?_
    exact ⟨false, rfl, .inr ⟨rfl, [E], ⟨partss (d + 1) q, by rw [List.map_cons, hEp, parts]; rfl⟩, h1⟩⟩)

/-- The iterator that parts makes tells a term's parts. -/
theorem parts_stops (x : Tm) (v : Value) (b : Nat) (w : World) (n : Nat) (hn : 1 ≤ n) (hS : ∀ b, S b → b < w0.heap.size) (hsz : sz x ≤ 262144) (hr : Rep w0 S x v) (hb0 : Below w0.heap.size w0 w) (hv : Va B w)
    (hx : ∀ k s m q, x = .mk k s m q → ∃ A ca, v = .agg #[.int .i64 k, .string ⟨⟨s⟩⟩, .int .i64 m, .slice A q.length ca] ∧ w.heap[b]? = some (.cells #[.int .i64 k, .string ⟨⟨s⟩⟩, .int .i64 m, .slice A q.length ca] 25 (0, 0))) :
    SeqStopsK Fence.wide n Tryz.prog 90 #[.pointer (some ⟨b, 0, none⟩)] (El.enc (w0 := w0) (S := S)) (Kps w0.heap.size B) (fun ys => ys.map El.pr = parts 0 x) (fun ys => ys.map El.pr <+: parts 0 x) (sz x) w := by
  intro l J Jx W hW hJ hJx hY h0
  obtain ⟨k, s, m, q⟩ := x
  obtain ⟨A, ca, rfl, hb⟩ := hx k s m q rfl
  have hbW := (hW.block b (some_lt hb)).trans hb
  obtain ⟨c0, c1, c2, c3⟩ := cell4 hbW
  have hvW := (Kps.of_below (n0 := w0.heap.size) hW hv.1 hb0.size).va hv
  have hcall := Lib.hid (tell_any hS (.mk k s m q) n 0 0 l _ J Jx _ W.heap.size [] W hn rfl (by omega) hr (hb0.trans (hW.mono hb0.size)) hvW hJ (fun pre x W1 h1 h2 => yield_wide (hY pre x W1 h1 h2)) (by simp) h0)
  clear hY hJ hJx h0 hvW hr hv hb0 hx hW hb
  refine callsIn_of_wp Tryz.func90 rfl trivial ?_ rfl
  simp only [Tryz.ntmps90, List.size_toArray, List.length_cons, List.length_nil, Nat.reduceAdd, Nat.reduceSub, Array.replicate_succ, Array.replicate_zero, List.push_toArray, List.append_toArray, List.nil_append, List.cons_append]
  gi_wp2_with (refine ⟨trivial, ?_⟩; gi_at_call 91; refine (callsIn_wide.2 (callsIn_wide.1 hcall.out)).mono ?_; rintro _ w2 ⟨b2, rfl, hb2⟩)
  go_end0
  refine ⟨⟨_, rfl⟩, ?_⟩
  rcases hb2 with ⟨-, ys, h1, h2, -⟩ | ⟨-, ys, h1, h2⟩
  · exact .inl ⟨ys, h1, h2⟩
  · exact .inr ⟨ys, h1, h2⟩

set_option maxRecDepth 100000 in
theorem partsf_any (k : Int) (s : List UInt8) (m : Int) (A : Option Addr) (c ca : Nat) (w : World) :
    Calls Tryz.prog 52 #[.agg #[.int .i64 k, .string ⟨⟨s⟩⟩, .int .i64 m, .slice A c ca]] w fun e w' =>
      e = .returned (.func (.func 90) #[] #[.pointer (some ⟨w.heap.size, 0, none⟩)]) ∧ w' = w.alloc (.cells #[.int .i64 k, .string ⟨⟨s⟩⟩, .int .i64 m, .slice A c ca] 25) := by
  go_enter Tryz.func52, Tryz.ntmps52
  go_wp2
  go_ret
  exact ⟨rfl, rfl⟩
end
end Go.Proofs.YticofjbngfjjlaaGreatDoor.Te

/- Size, Parts. -/

namespace Go.Proofs.YticofjbngfjjlaaGreatDoor.Te
open Go.RowKit Go.Shelf
open Tt
attribute [local go_sem] Oper.semAt_some

theorem rowAt_box {W : World} {B : Nat} {t : TypeId} {v : Value} (h : Boxed W B t v) : rowAt W B = v.ownBlock := by
  rw [rowAt, h.cell]; rfl
/-- The box B gets another value that leads nowhere. -/
theorem Kps.put {n0 B : Nat} {W : World} {t : TypeId} {v v' : Value} (h : Boxed W B t v) (hn : n0 ≤ B) (hv' : v'.ownBlock = none) : Kps n0 B W (W.setCell ⟨B, 0, none⟩ v') := by
  have hr := rowAt_box (h.set v')
  rw [hv'] at hr
  refine ⟨(Below.refl _ _).setCell (p := ⟨B, 0, none⟩) hn v', fun b o hb _ hm => ?_, fun b _ hm => ?_, fun hv => ⟨(h.set v').lt, fun b hb => ?_⟩⟩
  · rw [Below.heap_setCell _ _ _ b (fun e => hm (.inl e))]; exact hb
  · rcases hm with rfl | hm
    · exact .inl rfl
    · rw [hr] at hm; cases hm
  · rw [hr] at hb; cases hb

end Go.Proofs.YticofjbngfjjlaaGreatDoor.Te

