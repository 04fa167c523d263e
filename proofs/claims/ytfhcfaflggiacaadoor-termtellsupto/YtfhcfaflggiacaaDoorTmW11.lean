/- list, write, Text. -/
import Derived.Test.YtfhcfaflggiacaaDoorTmW10
import Derived.Test.YtfhcfaflggiacaaDoorTmW4
namespace Go.Proofs.YtfhcfaflggiacaaDoor
open Go.RowKit
open Tt

theorem jn_take_zero (q : List Tm) (h : 0 < q.length) : jn (texts (q.take 1)) = text q[0] := by
  cases q with
  | nil => simp at h
  | cons x r => simp [texts, jn]
theorem jn_take_succ (q : List Tm) (i : Nat) (h : i < q.length) (h0 : 0 < i) : jn (texts (q.take (i + 1))) = jn (texts (q.take i)) ++ 32 :: text q[i] := by
  rw [List.take_succ_eq_append_getElem h, texts_map, texts_map, List.map_append, List.map_singleton, jn_snoc]
  intro e
  have := congrArg List.length e
  rw [List.length_map, List.length_take, List.length_nil] at this
  omega
theorem jn_len : ∀ (l m : List Tm), (jn (texts l)).length ≤ (jn (texts (l ++ m))).length
  | [], m => by simp [texts, jn]
  | x :: r, m => by
    rw [List.cons_append, texts, texts, jn_pj, jn_pj]
    have h : (pj (texts r)).length ≤ (pj (texts (r ++ m))).length := by
      rw [texts_map, texts_map, List.map_append]
      simp [pj]
    simp; omega
theorem jn_take_len (q : List Tm) (i : Nat) : (jn (texts (q.take i))).length ≤ (jn (texts q)).length := by
  have := jn_len (q.take i) (q.drop i)
  rwa [List.take_append_drop] at this

set_option maxHeartbeats 2000000 in
set_option maxRecDepth 100000 in
theorem list_any (q : List Tm) (ih : ∀ x ∈ q, WriteSaid x) (B d : Nat) (di : Int) (hdi : di = d) (hsz : d + 1 + szs q ≤ 262144) (ca : Nat) (A : Option Addr) (S : Nat → Prop) (v : Value) (l : List UInt8) (w : World) (hb : Buf B w v l)
    (hr : TRow w S q A) (hS : ∀ b, S b → b < B) (hl : l.length + (jn (texts q)).length + 2 ≤ 999999999000) (htab : TabB B w) :
    Calls Tryd.prog 60 #[v, .int .i64 di, .slice A q.length ca] w fun e w' => ∃ v', e = .returned v' ∧ Buf B w' v' (l ++ 91 :: (jn (texts q) ++ [93])) ∧ Grw w v w' v' := by
  have hql := szs_len q
  obtain ⟨n, hn⟩ : ∃ n, n = q.length := ⟨_, rfl⟩
  obtain ⟨v1, w1, hr1, hB1, hG1⟩ := run_app (hb.bel ((Below.refl _ _).alloc (Nat.le_refl _) (.cells #[.int .u8 91] 5))) [91] ⟨w.heap.size, 0, none⟩ 1 (cell_byte w 91) (by simp; omega)
  have HR1 := Lib.hid hr1
  have HB1 := Lib.hid hB1
  have HG1 := Lib.hid ((Grw.alloc w v (.cells #[.int .u8 91] 5)).trans hG1)
  have HB0 := Lib.hid hb
  have HTR := Lib.hid hr
  have HS := Lib.hid hS
  have HT := Lib.hid htab
  have HIH := Lib.hid ih
  have HN := Lib.hid hn
  have hdl : di ≤ 262144 ∧ 0 ≤ di := by omega
  have HD := Lib.hid hdi
  rw [← hn]
  clear hr1 hB1 hG1 hb hr hS htab ih hdi
  go_enter Tryd.func60, Tryd.ntmps60
  go_wp2_with (at_builtin; refine wpList_append_run _ rfl (.tmp 9) (.tmp 10) 55 55 rfl _ _ rfl rfl HR1.out ?_)
  go_loopw [0, 14] (fun bv iv wr => ∃ i : Nat, i ≤ n ∧ iv = .int .i64 (i : Nat) ∧ Hid (Buf B wr bv (l ++ 91 :: jn (texts (q.take i)))) ∧ Hid (Grw w v wr bv)) (fun _ iv _ => n - (intOf iv).toNat)
  case atStart => exact ⟨0, by omega, rfl, Lib.hid (by simpa [texts, jn] using HB1.out), HG1⟩
  case round =>
    obtain ⟨i, hi, rfl, HB, HG⟩ := hrel
    have hlow := HB0.out.low HG.out
    by_cases hlt : i < n
    · have hil : (i : Int) < (n : Int) := by omega
      have hlt1 : i < q.length := by omega
      obtain ⟨b, o, k, s, m, p, C, cb, rfl, hSb, hx, c0, c1, c2, c3, hrep⟩ := trow_get HTR.out hlow HS.out hlt1
      have hmem : q[i] ∈ q := List.getElem_mem hlt1
      have hszm := szs_mem q _ hmem
      have hW := HIH.out _ hmem
      have hjl := jn_take_len q (i + 1)
      have htl := jn_take_len q i
      obtain ⟨X, hX⟩ : ∃ X, X = wr.alloc (.cells #[.int .i64 k, .string ⟨⟨s⟩⟩, .int .i64 m, .slice C p.length cb] 25) := ⟨_, rfl⟩
      have hbX : Below wr.heap.size wr X := by rw [hX]; exact (Below.refl _ _).alloc (Nat.le_refl _) _
      have hgX : X.heap[wr.heap.size]? = some (.cells #[.int .i64 k, .string ⟨⟨s⟩⟩, .int .i64 m, .slice C p.length cb] 25 (0, 0)) := by rw [hX]; exact heap_alloc_new wr _
      have hBX := HB.out.bel hbX
      have hGX := HG.out.trans (Grw.below hbX)
      by_cases h0 : i = 0
      · have hii : ¬ (0 : Int) < (i : Int) := by omega
        have hj0 : jn (texts (q.take (i + 1))) = text q[i] := by
          subst h0
          exact jn_take_zero q hlt1
        have ht0 : q.take i = [] := by rw [h0]; rfl
        rw [hx] at hj0 hszm hW
        have hcall := hW B (d + 1) (di + 1) S u0 _ _ X (by have := HD.out; omega) (by omega) hBX (rep_at hrep (hbX.mono HB.out.2) HS.out) HS.out (by
          rw [hj0] at hjl
          rw [ht0]
          simp [texts, jn]
          omega) (HT.out.on (HB0.out.low hGX))
        have HC := Lib.hid hcall
        have HX := Lib.hid hX
        have HGX := Lib.hid hGX
        have HJ := Lib.hid hj0
        have HT0 := Lib.hid ht0
        clear hcall hX hGX hBX hbX hgX hj0 hW hszm hmem hrep hx hlow hjl htl ht0 h0
        go_wp2_with fail
        rw [← HX.out]
        refine HC.out.mono ?_
        rintro _ w2 ⟨v2, rfl, hB2, hG2⟩
        have HB2 := Lib.hid hB2
        have HG2 := Lib.hid (HGX.out.trans hG2)
        clear hB2 hG2 HC
        go_wp2
        go_roundw
        case rel => exact ⟨i + 1, by omega, by go_num, Lib.hid (by have := HB2.out; rw [HT0.out] at this; rw [HJ.out]; simpa [texts, jn] using this), HG2⟩
        case measure => simp [intOf]; omega
      · have hipos : 0 < i := by omega
        have hii : (0 : Int) < (i : Int) := by omega
        have hj1 := jn_take_succ q i hlt1 hipos
        rw [hx] at hj1 hszm hW
        rw [hj1] at hjl
        have hbY : Below X.heap.size X (X.alloc (.cells #[.int .u8 32] 5)) := (Below.refl _ _).alloc (Nat.le_refl _) _
        obtain ⟨v2, w2, hr2, hB2, hG2⟩ := run_app (hBX.bel hbY) [32] ⟨X.heap.size, 0, none⟩ 1 (cell_byte X 32) (by simp; omega)
        have hG2' := (hGX.trans (Grw.below hbY)).trans hG2
        have hlow2 := HB0.out.low hG2'
        have hgY : (X.alloc (.cells #[.int .u8 32] 5)).heap[wr.heap.size]? = some (.cells #[.int .i64 k, .string ⟨⟨s⟩⟩, .int .i64 m, .slice C p.length cb] 25 (0, 0)) := (hbY.block _ (Array.getElem?_eq_some_iff.1 hgX).1).trans hgX
        have hgZ := (hG2.keep hgY ((hBX.bel hbY).own hgY (by decide))).1
        obtain ⟨e0, e1, e2, e3⟩ := cell4 hgZ
        have hrow2 := trow_get HTR.out hlow2 HS.out hlt1
        have hrep2 : Rep w2 S (.mk k s m p) (.agg #[.int .i64 k, .string ⟨⟨s⟩⟩, .int .i64 m, .slice C p.length cb]) := rep_keep (fun _ h => h) (fun c o hc => (hlow2.cell (p := ⟨c, o, none⟩) (HS.out c hc)).trans (hlow.cell (p := ⟨c, o, none⟩) (HS.out c hc)).symm) _ _ hrep
        have hcall := hW B (d + 1) (di + 1) S v2 _ _ w2 (by have := HD.out; omega) (by omega) hB2 hrep2 HS.out (by
          simp at hjl ⊢
          omega) (HT.out.on hlow2)
        have hsX : X.heap.size = wr.heap.size + 1 := by rw [hX]; simp
        have HC := Lib.hid hcall
        have HX := Lib.hid hX
        have HGX := Lib.hid hG2'
        have HJ := Lib.hid hj1
        rw [hsX, hX] at hr2
        have HR2 := Lib.hid hr2
        clear hcall hX hGX hBX hbX hgX hj1 hW hszm hmem hrep hx hlow hjl htl hr2 hB2 hG2 hG2' hlow2 hgY hgZ hrow2 hrep2 hbY h0 hsX
        go_wp2_with (at_builtin; refine wpList_append_run _ rfl (.tmp 21) (.tmp 22) 55 55 rfl _ _ rfl rfl HR2.out ?_)
        refine HC.out.mono ?_
        rintro _ w3 ⟨v3, rfl, hB3, hG3⟩
        have HB3 := Lib.hid hB3
        have HG3 := Lib.hid (HGX.out.trans hG3)
        clear hB3 hG3 HC
        go_wp2
        go_roundw
        case rel => exact ⟨i + 1, by omega, by go_num, Lib.hid (by have := HB3.out; rw [HJ.out]; simpa using this), HG3⟩
        case measure => simp [intOf]; omega
    · obtain rfl : i = n := by omega
      have hie : q.take i = q := List.take_of_length_le (by omega)
      have hB := HB.out
      rw [hie] at hB
      obtain ⟨v2, w2, hr2, hB2, hG2⟩ := run_app (hB.bel ((Below.refl _ _).alloc (Nat.le_refl _) (.cells #[.int .u8 93] 5))) [93] ⟨wr.heap.size, 0, none⟩ 1 (cell_byte wr 93) (by simp; omega)
      have HR2 := Lib.hid hr2
      have HB2 := Lib.hid hB2
      have HG2 := Lib.hid ((HG.out.trans (Grw.alloc _ _ (.cells #[.int .u8 93] 5))).trans hG2)
      clear hr2 hB2 hG2 hB hie hlow HB HG
      go_wp2_with (at_builtin; refine wpList_append_run _ rfl (.tmp 30) (.tmp 31) 55 55 rfl _ _ rfl rfl HR2.out ?_)
      go_ret
      refine ⟨_, rfl, ?_, HG2.out⟩
      have := HB2.out
      simpa using this
end Go.Proofs.YtfhcfaflggiacaaDoor
