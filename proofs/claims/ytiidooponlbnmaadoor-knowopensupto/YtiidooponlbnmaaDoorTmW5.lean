/- Row. -/
import Derived.Test.YtiidooponlbnmaaDoorTmW4
namespace Go.Proofs.YtiidooponlbnmaaDoor.Te
open Go.RowKit
open Tt

/-- A slice of texts. -/
def SRow (w : World) (l : List (List UInt8)) (A : Option Addr) : Prop :=
  l = [] ∨ ∃ b o, A = some ⟨b, o, none⟩ ∧ b < w.heap.size ∧ ∀ i (h : i < l.length), w.cell? ⟨b, o + i, none⟩ = some (.string ⟨⟨l[i]⟩⟩)
theorem SRow.below {w w' : World} {l : List (List UInt8)} {A : Option Addr} (h : SRow w l A) (hb : Below w.heap.size w w') : SRow w' l A := by
  rcases h with h | ⟨b, o, rfl, hlt, hc⟩
  · exact .inl h
  · exact .inr ⟨b, o, rfl, Nat.lt_of_lt_of_le hlt hb.size, fun i hi => (hb.cell (p := ⟨b, o + i, none⟩) hlt).trans (hc i hi)⟩

/-- A name. -/
def nm (s : List UInt8) : Tm := .mk 0 s 0 []
def nmc (s : List UInt8) : List Value := [.int .i64 0, .string ⟨⟨s⟩⟩, .int .i64 0, .slice none 0 0]
theorem rep_nm (w : World) (S : Nat → Prop) (s : List UInt8) : Rep w S (nm s) (.agg #[.int .i64 0, .string ⟨⟨s⟩⟩, .int .i64 0, .slice none 0 0]) :=
  rep_mk.2 ⟨none, 0, rfl, ⟨by omega, by omega⟩, .inl rfl⟩
theorem els_nms (w : World) (S : Nat → Prop) : ∀ l : List (List UInt8), Els w S (l.map nm) (l.flatMap nmc)
  | [] => by simp [Els]
  | s :: r => by
    have h := els_nms w S r
    simp only [List.map_cons, List.flatMap_cons]
    exact els_app [nm s] (nmc s) _ _ (els_one (rep_nm w S s)) h

theorem row_some {w : World} {g k : Nat} {cur : Array Value} {t : TypeId} {fr : Nat × Nat} (h : w.heap[g]? = some (.cells cur t fr)) (hk : k < cur.size) : ∃ v, w.cell? ⟨g, k, none⟩ = some v :=
  ⟨cur[k], by rw [cell_of_row _ _ _ _ _ _ h]; exact Array.getElem?_eq_getElem _⟩
/-- Four cells of a row. -/
theorem set4at {w : World} {g o : Nat} {cur : Array Value} {t : TypeId} (h : w.heap[g]? = some (.cells cur t (0, 0))) (hs : o + 4 ≤ cur.size) (u0 u1 u2 u3 : Value) :
    ∃ cur' : Array Value, (((w.setCell ⟨g, o, none⟩ u0).setCell ⟨g, o + 1, none⟩ u1).setCell ⟨g, o + 2, none⟩ u2).setCell ⟨g, o + 3, none⟩ u3 = w.setRow g cur' ∧ cur'.size = cur.size ∧ cur'.toList.take (o + 4) = cur.toList.take o ++ [u0, u1, u2, u3] := by
  have e0 := setCell_eq_setRow w g o _ t (0, 0) u0 h
  have h0 := setRow_heap w g _ (cur.setIfInBounds o u0) t (0, 0) h
  have e1 := setCell_eq_setRow _ g (o + 1) _ t (0, 0) u1 h0
  have h1 := setRow_heap w g _ ((cur.setIfInBounds o u0).setIfInBounds (o + 1) u1) t (0, 0) h
  have e2 := setCell_eq_setRow _ g (o + 2) _ t (0, 0) u2 h1
  have h2 := setRow_heap w g _ (((cur.setIfInBounds o u0).setIfInBounds (o + 1) u1).setIfInBounds (o + 2) u2) t (0, 0) h
  have e3 := setCell_eq_setRow _ g (o + 3) _ t (0, 0) u3 h2
  refine ⟨(((cur.setIfInBounds o u0).setIfInBounds (o + 1) u1).setIfInBounds (o + 2) u2).setIfInBounds (o + 3) u3, by rw [e0, e1, setRow_setRow, e2, setRow_setRow, e3, setRow_setRow], by simp, ?_⟩
  simp only [Array.toList_setIfInBounds]
  apply List.ext_getElem?
  intro i
  have hl : cur.toList.length = cur.size := by simp
  by_cases hi : i < o
  · rw [List.getElem?_take_of_lt (by omega), List.getElem?_append_left (by simp; omega), List.getElem?_take_of_lt hi]
    simp [show ¬ o + 3 = i by omega, show ¬ o + 2 = i by omega, show ¬ o + 1 = i by omega, show ¬ o = i by omega]
  · rw [List.getElem?_append_right (by simp; omega)]
    have hmin : (cur.toList.take o).length = o := by simp; omega
    rw [hmin]
    by_cases h4 : i < o + 4
    · rw [List.getElem?_take_of_lt h4]
      have : i = o ∨ i = o + 1 ∨ i = o + 2 ∨ i = o + 3 := by omega
      rcases this with rfl | rfl | rfl | rfl
      · simp [List.getElem?_set]; omega
      · simp [List.getElem?_set]; omega
      · simp [List.getElem?_set]; omega
      · simp [List.getElem?_set]; omega
    · rw [List.getElem?_eq_none (by simp; omega), List.getElem?_eq_none (by simp; omega)]

set_option maxHeartbeats 1000000 in
set_option maxRecDepth 100000 in
theorem Row_any (l : List (List UInt8)) (A : Option Addr) (ca : Nat) (w : World) (hn : l.length ≤ 1000000) (hr : SRow w l A) :
    Calls Tryd.prog 31 #[.slice A l.length ca] w fun e w' => ∃ u, e = .returned (.agg #[.int .i64 3, .string ⟨#[]⟩, .int .i64 0, u]) ∧ Below w.heap.size w w' ∧ NewRow (fun _ => False) w.heap.size w' (l.map nm) u := by
  obtain ⟨n, hnl⟩ : ∃ n, n = l.length := ⟨_, rfl⟩
  obtain ⟨z, hz⟩ : ∃ z, z = w.heap.size := ⟨_, rfl⟩
  obtain ⟨cur, hcs, hmk⟩ := makeT_any n (by omega) (w.alloc (.cells #[.int .i64 0, .string ⟨#[]⟩, .int .i64 0, .slice none 0 0] 33))
  obtain ⟨W2, hW2⟩ : ∃ W2, W2 = ((w.alloc (.cells #[.int .i64 0, .string ⟨#[]⟩, .int .i64 0, .slice none 0 0] 33)).alloc (.cells cur 33)) := ⟨_, rfl⟩
  have hs2 : W2.heap.size = z + 2 := by rw [hW2, hz]; simp
  rw [← hW2, World.size_alloc, ← hz] at hmk
  have hB2 : Below z w W2 := by rw [hW2, hz]; exact ((Below.refl _ _).alloc (Nat.le_refl _) _).alloc (by simp) _
  have hg1 : W2.heap[z + 1]? = some (.cells cur 33 (0, 0)) := by
    rw [hW2, hz]
    have := heap_alloc_new (w.alloc (.cells #[.int .i64 0, .string ⟨#[]⟩, .int .i64 0, .slice none 0 0] 33)) (.cells cur 33)
    rwa [World.size_alloc] at this
  have hg0 : W2.heap[z]? = some (.cells #[.int .i64 0, .string ⟨#[]⟩, .int .i64 0, .slice none 0 0] 33 (0, 0)) := by
    rw [hW2, hz, heap_alloc_old _ _ (by simp)]; exact heap_alloc_new w _
  have HR := Lib.hid hr
  have HNL := Lib.hid hnl
  have HZ := Lib.hid hz
  have HCS := Lib.hid hcs
  have HG0 := Lib.hid hg0
  have HG1 := Lib.hid hg1
  have HB2 := Lib.hid hB2
  have HS2 := Lib.hid hs2
  have hn1 : n ≤ 1000000 := by omega
  rw [← hnl]
  clear hr hnl hz hcs hg0 hg1 hW2 hn hB2 hs2
  go_enter Tryd.func31, Tryd.ntmps31
  go_wp2
  rw [← HZ.out]
  go_loopw [11] (fun iv wr => ∃ i : Nat, i ≤ n ∧ iv = .int .i64 (i : Nat) ∧ Hid (Below z w wr) ∧ Hid (wr.heap[z]? = some (.cells #[.int .i64 0, .string ⟨#[]⟩, .int .i64 0, .slice none 0 0] 33 (0, 0))) ∧ Hid (∃ cu : Array Value, wr.heap[z + 1]? = some (.cells cu 33 (0, 0)) ∧ cu.size = n * 4 ∧ cu.toList.take (i * 4) = (l.take i).flatMap nmc)) (fun iv _ => n - (intOf iv).toNat)
  case atStart => exact ⟨0, by omega, rfl, HB2, HG0, Lib.hid ⟨cur, HG1.out, HCS.out, by simp⟩⟩
  case round =>
    obtain ⟨i, hi, rfl, HB, HGz, HC⟩ := hrel
    by_cases hlt : i < n
    · have hil : (i : Int) < (n : Int) := by omega
      have hll : i < l.length := by rw [← HNL.out]; exact hlt
      obtain ⟨cu, hcu, hcz, hct⟩ := HC.out
      rcases HR.out with h | ⟨b, o, rfl, hb, hcell⟩
      · rw [h] at hll; simp at hll
      · have hs0 := (HB.out.cell (p := ⟨b, o + i, none⟩) (by rw [HZ.out]; exact hb)).trans (hcell i hll)
        have HOF := Lib.hid (Of_any l[i] wr)
        have HCU := Lib.hid hcu
        have HCZ := Lib.hid hcz
        have HCT := Lib.hid hct
        have HT : Hid ((l.take (i + 1)).flatMap nmc = (l.take i).flatMap nmc ++ nmc l[i]) := by rw [Hid, List.take_succ_eq_append_getElem hll, List.flatMap_append, List.flatMap_cons, List.flatMap_nil, List.append_nil]
        generalize l[i] = s at *
        clear hcell hb HC hcu hcz hct
        go_wp2_with fail
        refine HOF.out.mono ?_
        rintro _ w1 ⟨rfl, hb1⟩
        have hzl : z + 1 < wr.heap.size := (Array.getElem?_eq_some_iff.1 HCU.out).1
        have hcu1 := (hb1.block (z + 1) hzl).trans HCU.out
        have HGz1 := Lib.hid ((hb1.block z (by omega)).trans HGz.out)
        have HB1 : Hid (Below z w w1) := HB.out.trans (hb1.mono (by omega))
        have hcz := HCZ.out
        have hf := fun k => frozen_of_row _ _ k _ _ hcu1
        obtain ⟨v0, d0⟩ := row_some hcu1 (k := i * 4) (by omega)
        obtain ⟨v1, d1⟩ := row_some hcu1 (k := i * 4 + 1) (by omega)
        obtain ⟨v2, d2⟩ := row_some hcu1 (k := i * 4 + 2) (by omega)
        obtain ⟨v3, d3⟩ := row_some hcu1 (k := i * 4 + 3) (by omega)
        have HCU1 := Lib.hid hcu1
        clear hcu1 hb1 hzl HCU HGz HB HOF hcz
        go_wp2
        obtain ⟨cu', he, hsz, htk⟩ := set4at HCU1.out (o := i * 4) (by rw [HCZ.out]; omega) (.int .i64 0) (.string ⟨⟨s⟩⟩) (.int .i64 0) (.slice none 0 0)
        rw [he]
        go_roundw
        case rel =>
          refine ⟨i + 1, by omega, by go_num, below_setRow4 HB1.out (by omega) _, ?_, Lib.hid ⟨cu', setRow_heap _ _ _ _ _ _ HCU1.out, hsz.trans HCZ.out, ?_⟩⟩
          · exact (setRow_other _ _ _ _ (by omega)).trans HGz1.out
          · rw [show (i + 1) * 4 = i * 4 + 4 by omega, htk, HT.out, HCT.out]; rfl
        case measure => simp [intOf]; omega
    · have hie : l.take i = l := List.take_of_length_le (by rw [← HNL.out]; omega)
      obtain ⟨cu, hcu, hcz, hct⟩ := HC.out
      obtain rfl : i = n := by omega
      rw [hie, List.take_of_length_le (by simp; omega)] at hct
      have hzl := (Array.getElem?_eq_some_iff.1 hcu).1
      have hlr : LRow wr (fun _ => False) (l.map nm) (some ⟨z + 1, 0, none⟩) := .inr ⟨z + 1, 0, _, rfl, hzl, els_nms wr _ l, fun j u hj => by
        rw [Nat.zero_add, cell_of_row _ _ _ _ _ _ hcu, ← Array.getElem?_toList, hct]; exact hj⟩
      have hL := List_any (l.map nm) _ i (fun _ => False) wr (by rw [List.length_map, ← HNL.out]; exact hn1) hlr (fun _ h => h.elim)
      rw [List.length_map, ← HNL.out] at hL
      have HL := Lib.hid hL
      clear hL hlr hcu hcz hct hie HC HR
      go_wp2_with fail
      refine HL.out.mono ?_
      rintro _ w1 ⟨u, rfl, hb1, hnr⟩
      have hg := (hb1.block z (by omega)).trans HGz.out
      obtain ⟨g, xs, rfl, hgz, hc, he⟩ := hnr
      have HX := Lib.hid hc
      have HE := Lib.hid he
      have HGZ : Hid (z + 1 < g) := by show _ < _; omega
      have HB1 : Hid (Below w.heap.size w w1) := by rw [← HZ.out]; exact HB.out.trans (hb1.mono (by omega))
      have HG := Lib.hid hg
      obtain ⟨c0, c1, c2, c3⟩ := cell4 hg
      have f0 := fun k => frozen_of_row _ _ k _ _ hg
      clear hg hb1 HL hc he hgz HGz HB
      go_wp2
      rw [set4 HG.out]
      have hgz := HGZ.out
      have hzw : w.heap.size ≤ z := by rw [HZ.out]; exact Nat.le_refl _
      have hb := below_setRow4 HB1.out hzw #[.int .i64 3, .string ⟨#[]⟩, .int .i64 0, .slice (some ⟨g, 0, none⟩) l.length l.length]
      refine bodyPost_ret (results_term Tryd.results31 _ _ z _ _ _ _ _ _ rfl (setRow_heap _ _ _ _ _ _ HG.out)) rfl ⟨_, rfl, hb, ?_⟩
      refine ⟨g, xs, by rw [List.length_map], by omega, ?_, ?_⟩
      · rw [setRow_other _ _ _ _ (by omega)]; exact HX.out
      · exact els_keep (fun _ h => h) (fun c q hc => hc.elim) _ xs HE.out
end Go.Proofs.YtiidooponlbnmaaDoor.Te
