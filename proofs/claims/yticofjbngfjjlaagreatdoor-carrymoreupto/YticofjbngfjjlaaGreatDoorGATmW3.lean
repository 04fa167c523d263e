/- Valid. -/
import Derived.Test.YticofjbngfjjlaaGreatDoorGATmW11
import Derived.Test.YticofjbngfjjlaaGreatDoorGATmW2
import Derived.Test.YticofjbngfjjlaaGreatDoorGATmPure
import Derived.Test.YticofjbngfjjlaaGreatDoorGAHmW3
import Derived.Laws.OwnMore
namespace Go.Proofs.YticofjbngfjjlaaGreatDoor.Te
open Go.RowKit Go.Shelf
open Tt
attribute [local go_sem] Oper.semAt_some

set_option maxHeartbeats 1000000 in
set_option maxRecDepth 100000 in
theorem Valid1_any (d : Nat) (di : Int) (hd : di = d) (x : Tm) (S : Nat → Prop) (v : Value) (w : World) (hr : Rep w S x v) (hS : ∀ b, S b → b < w.heap.size) :
    Calls Tryz.prog 44 #[.int .i64 di, v] w fun e w' => e = .returned (.bool (odd (d, x))) ∧ Below w.heap.size w w' := by
  obtain ⟨k, s, n, l⟩ := x
  have hr0 := hr
  obtain ⟨A, ca, rfl, hm, hrow⟩ := rep_mk.1 hr
  have HB := Lib.hid (Bl.a (w := w) (.cells #[.int .i64 k, .string ⟨⟨s⟩⟩, .int .i64 n, .slice A l.length ca] 25))
  have HO : Hid (odd (d, .mk k s n l) = (decide (16 < di) || mis (.mk k s n l))) := by
    rw [Hid, odd, hd]
    congr 1
    simp; omega
  by_cases h16 : 16 < di
  · clear hr hr0 hm hrow hd
    go_enter Tryz.func44, Tryz.ntmps44
    go_wp2
    go_ret
    refine ⟨ret_b ?_, HB.out⟩
    rw [HO.out]; simp [h16]
  · have HM := Lib.hid (misshapen_any (.mk k s n l) S _ _ (rep_below hr0 HB.out hS) (fun b hb => Nat.lt_of_lt_of_le (hS b hb) HB.out.size))
    have HO2 : Hid (odd (d, .mk k s n l) = mis (.mk k s n l)) := by rw [Hid, HO.out]; simp [h16]
    clear hr hr0 hm hrow hd HO
    go_enter Tryz.func44, Tryz.ntmps44
    go_wp2_with fail
    refine HM.out.mono ?_
    rintro _ w1 ⟨rfl, hb1⟩
    have HB1 : Hid (Below w.heap.size w w1) := HB.out.trans (hb1.mono HB.out.size)
    clear hb1 HM
    generalize mis (.mk k s n l) = M at *
    go_wp2
    go_ret
    exact ⟨ret_b HO2.out.symm, HB1.out⟩

theorem keepsFrom_below {B : Nat} {W W' : World} (h : Below W.heap.size W W') : KeepsFrom B W W' := ⟨h.size, fun k _ _ hk _ => (h.block k (some_lt hk)).trans hk⟩
theorem boxed_below {W W' : World} {b : Nat} {t : TypeId} {v : Value} (h : Boxed W b t v) (hb : Below W.heap.size W W') : Boxed W' b t v := (hb.block b h.lt).trans h

theorem results_box {fn : Func} {p : Tmp} (h : fn.results = #[.cell p 4]) (tmps : Array Value) (w : World) (b : Nat) (c : Bool) (hp : tmps.getD p undef = .pointer (some ⟨b, 0, none⟩)) (hb : Boxed w b 4 (.bool c)) :
    (results fn tmps).run Tryz.prog w = .ok (.bool c) w := by
  have hp' : tmps[p]?.getD undef = .pointer (some ⟨b, 0, none⟩) := by simpa using hp
  have hc := hb.cell
  simp [results, h, hp', asAddr, loadVar, hc, go_sem]

set_option maxRecDepth 100000 in
set_option maxHeartbeats 2000000 in
theorem some_any (x : Tm) (S : Nat → Prop) (v : Value) (w : World) (hsz : sz x ≤ 262144) (hr : Rep w S x v) (hS : ∀ b, S b → b < w.heap.size) :
    Calls Tryz.prog 43 #[v, .func (.func 44) #[] #[]] w fun e w' => e = .returned (.bool ((parts 0 x).any odd)) ∧ Below w.heap.size w w' := by
  obtain ⟨k, s, m, q⟩ := x
  have hr0 := hr
  obtain ⟨A, ca, rfl, hm, hrow⟩ := rep_mk.1 hr
  obtain ⟨z, hz⟩ : ∃ z, z = w.heap.size := ⟨_, rfl⟩
  refine (callsIn_wide (n := 4)).1 ?_
  refine callsIn_of_wp_marks Tryz.func43 rfl trivial ?_ rfl
  simp only [Tryz.ntmps43, List.size_toArray, List.length_cons, List.length_nil, Nat.reduceAdd, Nat.reduceSub, Array.replicate_succ, Array.replicate_zero, List.push_toArray, List.append_toArray, List.nil_append, List.cons_append]
  gi_wp2_with (refine ⟨trivial, ?_⟩; gi_at_call 52; refine (callsIn_wide.2 (partsf_any k s m A q.length ca _)).mono ?_; rintro _ _ ⟨rfl, rfl⟩)
  obtain ⟨W1, hW1⟩ : ∃ W1, W1 = ((w.alloc (.cells #[.int .i64 k, .string ⟨⟨s⟩⟩, .int .i64 m, .slice A q.length ca] 25)).alloc (.cells #[.func (.func 44) #[] #[]] 82)) := ⟨_, rfl⟩
  have bF := (((Boxed.new (w.alloc (.cells #[.int .i64 k, .string ⟨⟨s⟩⟩, .int .i64 m, .slice A q.length ca] 25)) 82 (.func (.func 44) #[] #[])).alloc (.cells #[.bool false] 4)).alloc (.cells #[.int .i64 k, .string ⟨⟨s⟩⟩, .int .i64 m, .slice A q.length ca] 25))
  have hs1 : W1.heap.size = z + 2 := by rw [hW1, hz]; simp
  rw [← hW1, World.size_alloc, ← hz] at bF
  rw [← hW1]
  have bC := (Boxed.new W1 4 (.bool false)).alloc (.cells #[.int .i64 k, .string ⟨⟨s⟩⟩, .int .i64 m, .slice A q.length ca] 25)
  have bT := heap_alloc_new (W1.alloc (.cells #[.bool false] 4)) (.cells #[.int .i64 k, .string ⟨⟨s⟩⟩, .int .i64 m, .slice A q.length ca] 25)
  rw [hs1] at bC
  rw [World.size_alloc, hs1] at bT
  have hB : Below z w ((W1.alloc (.cells #[.bool false] 4)).alloc (.cells #[.int .i64 k, .string ⟨⟨s⟩⟩, .int .i64 m, .slice A q.length ca] 25)) := by
    rw [hW1, hz]; exact ((((Below.refl _ _).alloc (Nat.le_refl _) _).alloc (by simp) _).alloc (by simp; omega) _).alloc (by simp; omega) _
  have hs2 : ((W1.alloc (.cells #[.bool false] 4)).alloc (.cells #[.int .i64 k, .string ⟨⟨s⟩⟩, .int .i64 m, .slice A q.length ca] 25)).heap.size = z + 4 := by simp [hs1]
  generalize (W1.alloc (.cells #[.bool false] 4)).alloc (.cells #[.int .i64 k, .string ⟨⟨s⟩⟩, .int .i64 m, .slice A q.length ca] 25) = W2 at *
  have hva : Va (z + 2) W2 := ⟨bC.lt, fun b hb => by rw [rowAt_box bC] at hb; cases hb⟩
  rw [← hz]
  have HZ : Hid (z = w.heap.size) := hz
  have hzl : z ≤ w.heap.size := by omega
  clear hz hW1 hs1
  refine wpIn_rangeFunc_ownH rfl (by omega) (gf := 90) (lb := #[.pointer (some ⟨z + 3, 0, none⟩)]) rfl trivial (enters_of Tryz.func90 (by kernel_rfl) rfl)
    (parts_stops (w0 := w) (S := S) (B := z + 2) (.mk k s m q) _ (z + 3) W2 3 (by omega) hS hsz hr0 (by rw [← HZ.out]; exact hB) hva (fun k' s' m' q' e => by injection e with e1 e2 e3 e4; subst e1 e2 e3 e4; exact ⟨A, ca, rfl, bT⟩)) Kps.trans (Kps.putObj (by omega) (by rw [← HZ.out]; omega)) (Below.refl _ _) (fun _ => rfl)
    (fun pre W => Boxed W (z + 2) 4 (.bool false) ∧ Boxed W (z + 1) 82 (.func (.func 44) #[] #[]) ∧ Below z w W ∧ (pre.map El.pr).any odd = false)
    (fun c pre W => Boxed W (z + 2) 4 (.bool true) ∧ Below z w W ∧ (c = .ret ∧ (pre.map El.pr).any odd = true))
    (OwnFrom.and (Own.from (boxed_own (z + 2) 4 (fun _ : List (El w S) => .bool false)) _) (OwnFrom.and (Own.from (boxed_own (z + 1) 82 (fun _ : List (El w S) => .func (.func 44) #[] #[])) _) (OwnFrom.and (ownFrom_below (by omega) (by omega)) (ownFrom_pure _ _))))
    (fun c => OwnFrom.and (Own.from (boxed_own (z + 2) 4 (fun _ : List (El w S) => .bool true)) _) (OwnFrom.and (ownFrom_below (by omega) (by omega)) (ownFrom_pure _ _)))
    ⟨bC, bF, hB, rfl⟩
    (fun x a' W => ∃ b, (∃ k s m A c ca, x.1.2.2 = .agg #[.int .i64 k, .string ⟨⟨s⟩⟩, .int .i64 m, .slice A c ca] ∧ W.heap[b]? = some (.cells #[.int .i64 k, .string ⟨⟨s⟩⟩, .int .i64 m, .slice A c ca] 25 (0, 0))) ∧ a' = { tmps := #[.agg #[.int .i64 k, .string ⟨⟨s⟩⟩, .int .i64 m, .slice A q.length ca], .func (.func 44) #[] #[], .pointer (some ⟨z, 0, none⟩), .pointer (some ⟨z + 1, 0, none⟩), .pointer (some ⟨z + 2, 0, none⟩), .int .i64 (x.1.1 : Nat), .pointer (some ⟨b, 0, none⟩), .agg #[.int .i64 k, .string ⟨⟨s⟩⟩, .int .i64 m, .slice A q.length ca], .func (.func 90) #[] #[.pointer (some ⟨z + 3, 0, none⟩)], .int .i64 (x.1.1 : Nat), x.1.2.2, undef, undef, undef, undef], defers := [] }) ?own ?assign ?body ?done ?stop
  case own =>
    rintro x a' _ X Y row ⟨b, ⟨k, s, m, A, c, ca, e, h⟩, e2⟩ hg hrow
    exact ⟨b, ⟨k, s, m, A, c, ca, e, (hg.block b (some_lt h) (fun e' => by obtain ⟨_, o, ho, hc⟩ := hrow b e'.symm; rw [h] at ho; cases ho; cases hc)).trans h⟩, e2⟩
  case assign =>
    rintro l pre ⟨⟨d, y, u⟩, hu, hd⟩ W K hI hK
    obtain ⟨k1, s1, m1, q1⟩ := y
    obtain ⟨A1, ca1, rfl, hm1, hrow1⟩ := rep_mk.1 hu
    clear hr0 hr hva hB bC bF bT hrow hS
    generalize hT : Array.foldl _ _ _ _ _ = T
    simp [El.enc] at hT
    subst hT
    gi_wp2
    obtain ⟨bx, bf, hBW, hany⟩ := hI
    have hb1 := Bl.a (w := W) (.cells #[.int .i64 k1, .string ⟨⟨s1⟩⟩, .int .i64 m1, .slice A1 q1.length ca1] 25)
    have hzW : z ≤ W.heap.size := by have := bx.lt; omega
    exact hK _ _ (keepsFrom_below hb1) (Kps.of_below hb1 bx.lt (by rw [← HZ.out]; exact hzW)) ⟨boxed_below bx hb1, boxed_below bf hb1, hBW.trans (hb1.mono hzW), hany⟩ ⟨W.heap.size, ⟨k1, s1, m1, A1, q1.length, ca1, rfl, heap_alloc_new W _⟩, rfl⟩
  case body =>
    rintro l pre ⟨⟨d, y, u⟩, hu, hd⟩ a' W hl hlr ⟨bx, bf, hBW, hany⟩ ⟨b, ⟨k1, s1, m1, A1, c1, ca1, hue, hbT⟩, rfl⟩ hlt
    dsimp only at hue
    subst hue
    have hf := bx.frozen
    have hcf := bf.cell
    obtain ⟨c0, c1', c2, c3⟩ := cell4 hbT
    have hzW : z ≤ W.heap.size := by have := bx.lt; omega
    have hV := Valid1_any d (d : Nat) rfl y S _ W (rep_at hu hBW (fun b hb => by have := hS b hb; have := HZ.out; omega)) (fun b hb => Nat.lt_of_lt_of_le (hS b hb) (by rw [← HZ.out]; exact hzW))
    have BX := Lib.hid bx
    have BF := Lib.hid bf
    clear hr hr0 hrow bC bF bT hva hB hlr
    cases ho : odd (d, y)
    · rw [ho] at hV
      have HV := Lib.hid hV
      clear hV bx bf hf
      gi_wp2_with (refine ⟨trivial, ?_⟩; gi_at_call 44; refine (callsIn_wide.2 HV.out).mono ?_; rintro _ w1 ⟨rfl, hb1⟩)
      refine ⟨keepsFrom_below hb1, Kps.of_below hb1 BX.out.lt (by rw [← HZ.out]; exact hzW), boxed_below BX.out hb1, boxed_below BF.out hb1, hBW.trans (hb1.mono hzW), ?_⟩
      rw [List.map_append, List.any_append, hany]
      simp [El.pr, ho]
    · rw [ho] at hV
      have HV := Lib.hid hV
      clear hV bx bf hf
      gi_wp2_with fail
      refine ⟨trivial, ?_⟩
      gi_at_call 44
      refine (callsIn_wide.2 HV.out).mono ?_
      rintro _ w1 ⟨rfl, hb1⟩
      have bx1 := boxed_below BX.out hb1
      have hc1 := bx1.cell
      have hf1 := bx1.frozen
      gi_wp2
      refine ⟨(keepsFrom_below hb1).trans ((KeepsOthers.setCell _ _ _).from _), bx1.set _, (hBW.trans (hb1.mono hzW)).setCell (p := ⟨z + 2, 0, none⟩) (by show z ≤ z + 2; omega) _, rfl, ?_⟩
      rw [List.map_append, List.any_append]
      simp [El.pr, ho]
  case done =>
    rintro D ys W hD hys ⟨bx, bf, hBW, hany⟩ hK
    have hc := bx.cell
    have hf := bx.frozen
    have hne : z + 2 ≠ D := by omega
    gi_wp2
    have hK2 : (W.setCell ⟨z + 2, 0, none⟩ (.bool false)).heap[D]? = some (.deferred (some [])) := by rw [Below.heap_setCell _ _ _ D (fun e => hne e.symm)]; exact hK
    refine ⟨by simp, .inl ⟨_, _, rfl, run_takeDeferred hK2, ?_⟩⟩
    have bx2 : Boxed ((W.setCell ⟨z + 2, 0, none⟩ (.bool false)).putObj D (.deferred none)) (z + 2) 4 (.bool false) := (World.putObj_heap_other (by omega)).trans (bx.set _)
    refine ⟨_, results_box rfl _ _ _ _ rfl bx2, ?_, ?_⟩
    · rw [← hys, hany]
    · rw [← HZ.out]
      exact (hBW.setCell (p := ⟨z + 2, 0, none⟩) (by show z ≤ z + 2; omega) _).trans (belowK_b (w := w) hzl _ D _ _ (by have := HZ.out; omega) hK2 rfl rfl)
  case stop =>
    rintro D c pre W hD hpre ⟨bx, hBW, rfl, hany⟩ hK
    have hc := bx.cell
    have hne : z + 2 ≠ D := by omega
    gi_wp2
    refine ⟨by simp, .inl ⟨_, _, rfl, run_takeDeferred hK, ?_⟩⟩
    have bx2 : Boxed (W.putObj D (.deferred none)) (z + 2) 4 (.bool true) := (World.putObj_heap_other (by omega)).trans bx
    refine ⟨_, results_box rfl _ _ _ _ rfl bx2, ?_, ?_⟩
    · obtain ⟨t, ht⟩ := hpre
      rw [← ht, List.any_append, hany]; rfl
    · rw [← HZ.out]
      exact hBW.trans (belowK_b (w := w) hzl _ D _ _ (by have := HZ.out; omega) hK rfl rfl)

set_option maxRecDepth 100000 in
set_option maxHeartbeats 1000000 in
theorem Valid_any (x : Tm) (S : Nat → Prop) (v : Value) (w : World) (hsz : sz x ≤ 262144) (hr : Rep w S x v) (hS : ∀ b, S b → b < w.heap.size) :
    Calls Tryz.prog 19 #[v] w fun e w' => e = .returned (.bool (vld 0 x)) ∧ Below w.heap.size w w' := by
  obtain ⟨R, hR⟩ : ∃ R, R = (parts 0 x).any odd := ⟨_, rfl⟩
  have hv : vld 0 x = !R := by rw [vld, hR]
  rw [hv]
  have hS0 := some_any x S
  rw [← hR] at hS0
  clear hR hv
  obtain ⟨k, s, m, q⟩ := x
  have hr0 := hr
  obtain ⟨A, ca, rfl, hm, hrow⟩ := rep_mk.1 hr
  have HB := Lib.hid (Bl.a (w := w) (.cells #[.int .i64 k, .string ⟨⟨s⟩⟩, .int .i64 m, .slice A q.length ca] 25))
  have HS := Lib.hid (hS0 _ _ hsz (rep_below hr0 HB.out hS) (fun b hb => Nat.lt_of_lt_of_le (hS b hb) HB.out.size))
  clear hr hr0 hm hrow hsz hS hS0
  go_enter Tryz.func19, Tryz.ntmps19
  go_wp2_with fail
  refine HS.out.mono ?_
  rintro _ w1 ⟨rfl, hb1⟩
  have HB1 : Hid (Below w.heap.size w w1) := HB.out.trans (hb1.mono HB.out.size)
  clear hb1 HS
  go_wp2
  go_ret
  exact ⟨rfl, HB1.out⟩
end Go.Proofs.YticofjbngfjjlaaGreatDoor.Te

/- Row. -/

namespace Go.Proofs.YticofjbngfjjlaaGreatDoor.Te
open Go.RowKit
open Tt

/-- A slice of texts. -/
def SRow (w : World) (l : List (List UInt8)) (A : Option Addr) : Prop :=
  l = [] ∨ ∃ b o, A = some ⟨b, o, none⟩ ∧ b < w.heap.size ∧ ∀ i (h : i < l.length), w.cell? ⟨b, o + i, none⟩ = some (.string ⟨⟨l[i]⟩⟩)
theorem SRow.below {w w' : World} {l : List (List UInt8)} {A : Option Addr} (h : SRow w l A) (hb : Below w.heap.size w w') : SRow w' l A := by
  rcases h with h | ⟨b, o, rfl, hlt, hc⟩
  · exact .inl h
  · exact .inr ⟨b, o, rfl, Nat.lt_of_lt_of_le hlt hb.size, fun i hi => (hb.cell (p := ⟨b, o + i, none⟩) hlt).trans (hc i hi)⟩

/-- A name. -/
def nm (s : List UInt8) : Tm := .mk 0 s 0 []
def nmc (s : List UInt8) : List Value := [.int .i64 0, .string ⟨⟨s⟩⟩, .int .i64 0, .slice none 0 0]
theorem rep_nm (w : World) (S : Nat → Prop) (s : List UInt8) : Rep w S (nm s) (.agg #[.int .i64 0, .string ⟨⟨s⟩⟩, .int .i64 0, .slice none 0 0]) :=
  rep_mk.2 ⟨none, 0, rfl, ⟨by omega, by omega⟩, .inl rfl⟩
theorem els_nms (w : World) (S : Nat → Prop) : ∀ l : List (List UInt8), Els w S (l.map nm) (l.flatMap nmc)
  | [] => by simp [Els]
  | s :: r => by
    have h := els_nms w S r
    simp only [List.map_cons, List.flatMap_cons]
    exact els_app [nm s] (nmc s) _ _ (els_one (rep_nm w S s)) h

theorem row_some {w : World} {g k : Nat} {cur : Array Value} {t : TypeId} {fr : Nat × Nat} (h : w.heap[g]? = some (.cells cur t fr)) (hk : k < cur.size) : ∃ v, w.cell? ⟨g, k, none⟩ = some v :=
  ⟨cur[k], by rw [cell_of_row _ _ _ _ _ _ h]; exact Array.getElem?_eq_getElem _⟩
/-- Four cells of a row. -/
theorem set4at {w : World} {g o : Nat} {cur : Array Value} {t : TypeId} (h : w.heap[g]? = some (.cells cur t (0, 0))) (hs : o + 4 ≤ cur.size) (u0 u1 u2 u3 : Value) :
    ∃ cur' : Array Value, (((w.setCell ⟨g, o, none⟩ u0).setCell ⟨g, o + 1, none⟩ u1).setCell ⟨g, o + 2, none⟩ u2).setCell ⟨g, o + 3, none⟩ u3 = w.setRow g cur' ∧ cur'.size = cur.size ∧ cur'.toList.take (o + 4) = cur.toList.take o ++ [u0, u1, u2, u3] := by
  have e0 := setCell_eq_setRow w g o _ t (0, 0) u0 h
  have h0 := setRow_heap w g _ (cur.setIfInBounds o u0) t (0, 0) h
  have e1 := setCell_eq_setRow _ g (o + 1) _ t (0, 0) u1 h0
  have h1 := setRow_heap w g _ ((cur.setIfInBounds o u0).setIfInBounds (o + 1) u1) t (0, 0) h
  have e2 := setCell_eq_setRow _ g (o + 2) _ t (0, 0) u2 h1
  have h2 := setRow_heap w g _ (((cur.setIfInBounds o u0).setIfInBounds (o + 1) u1).setIfInBounds (o + 2) u2) t (0, 0) h
  have e3 := setCell_eq_setRow _ g (o + 3) _ t (0, 0) u3 h2
  refine ⟨(((cur.setIfInBounds o u0).setIfInBounds (o + 1) u1).setIfInBounds (o + 2) u2).setIfInBounds (o + 3) u3, by rw [e0, e1, setRow_setRow, e2, setRow_setRow, e3, setRow_setRow], by simp, ?_⟩
  simp only [Array.toList_setIfInBounds]
  apply List.ext_getElem?
  intro i
  have hl : cur.toList.length = cur.size := by simp
  by_cases hi : i < o
  · rw [List.getElem?_take_of_lt (by omega), List.getElem?_append_left (by simp; omega), List.getElem?_take_of_lt hi]
    simp [show ¬ o + 3 = i by omega, show ¬ o + 2 = i by omega, show ¬ o + 1 = i by omega, show ¬ o = i by omega]
  · rw [List.getElem?_append_right (by simp; omega)]
    have hmin : (cur.toList.take o).length = o := by simp; omega
    rw [hmin]
    by_cases h4 : i < o + 4
    · rw [List.getElem?_take_of_lt h4]
      have : i = o ∨ i = o + 1 ∨ i = o + 2 ∨ i = o + 3 := by omega
      rcases this with rfl | rfl | rfl | rfl
      · simp [List.getElem?_set]; omega
      · simp [List.getElem?_set]; omega
      · simp [List.getElem?_set]; omega
      · simp [List.getElem?_set]; omega
    · rw [List.getElem?_eq_none (by simp; omega), List.getElem?_eq_none (by simp; omega)]

end Go.Proofs.YticofjbngfjjlaaGreatDoor.Te

/- Parts. -/

namespace Go.Proofs.YticofjbngfjjlaaGreatDoor.Te
open Go.RowKit Go.Shelf
open Tt
attribute [local go_sem] Oper.semAt_some

theorem Kps.appd {n0 B : Nat} {W W' : World} {t : TypeId} {v v' : Value} (hb : Boxed W B t v) (hb' : Boxed W' B t v') (hat : v'.ownBlock = v.ownBlock ∨ ∃ k, v'.ownBlock = some k ∧ W.heap.size ≤ k)
    (hkeep : ∀ b o, W.heap[b]? = some o → b ≠ B → some b ≠ v.ownBlock → W'.heap[b]? = some o) (hbel : Below n0 W W') (hlt : ∀ b, v'.ownBlock = some b → b < W'.heap.size) : Kps n0 B W W' := by
  have r := rowAt_box hb
  have r' := rowAt_box hb'
  refine ⟨hbel, fun b o h1 _ h2 => hkeep b o h1 (fun e => h2 (.inl e)) (fun e => h2 (.inr (by rw [r, ← e]))), fun b hlt' hm => ?_, fun hv => ⟨hb'.lt, fun b hb2 => hlt b (by rw [← r', hb2])⟩⟩
  rcases hm with rfl | hm
  · exact .inl rfl
  · rw [r'] at hm
    rcases hat with h | ⟨k, h, hk⟩
    · exact .inr (by rw [r, ← h, hm])
    · rw [h] at hm; cases hm; omega

def vcells : Value → List Value
  | .agg a => a.toList
  | _ => []
def flatEls {w0 : World} {S : Nat → Prop} (pre : List (El w0 S)) : List Value := pre.flatMap fun x => vcells x.1.2.2
theorem flatEls_snoc {w0 : World} {S : Nat → Prop} (pre : List (El w0 S)) (x : El w0 S) : flatEls (pre ++ [x]) = flatEls pre ++ vcells x.1.2.2 := by
  simp [flatEls]
theorem els_flat {w0 : World} {S : Nat → Prop} : ∀ pre : List (El w0 S), Els w0 S (pre.map fun x => x.1.2.1) (flatEls pre)
  | [] => by simp [Els, flatEls]
  | x :: r => by
    have h := els_flat r
    obtain ⟨⟨d, y, u⟩, hu, hd⟩ := x
    obtain ⟨k, s, m, q⟩ := y
    have hu0 := hu
    obtain ⟨A, ca, rfl, -, -⟩ := rep_mk.1 hu
    simp only [List.map_cons, flatEls, List.flatMap_cons]
    exact els_app [Tm.mk k s m q] [.int .i64 k, .string ⟨⟨s⟩⟩, .int .i64 m, .slice A q.length ca] _ _ (els_one hu0) h

/-- What is so behind the two stores of 'l = append(l, p)', in either order. -/
structure Fin2 (n0 B g o : Nat) (v' : Value) (u : List Value) (cur : Array Value) (w1 W' : World) : Prop where
  box : Boxed W' B 23 v'
  row : ∃ cur' : Array Value, W'.heap[g]? = some (.cells cur' 25 (0, 0)) ∧ cur'.size = cur.size ∧ cur'.toList.take (o + 4) = cur.toList.take o ++ u
  rest : ∀ b, b ≠ B → b ≠ g → W'.heap[b]? = w1.heap[b]?
  size : W'.heap.size = w1.heap.size
  below : Below n0 w1 W'
  others : KeepsOthers w1 W'

theorem fin2_a {n0 B g o : Nat} {v v' u0 u1 u2 u3 : Value} {cur : Array Value} {w1 : World} (hg : w1.heap[g]? = some (.cells cur 25 (0, 0))) (hB : Boxed w1 B 23 v) (hne : g ≠ B) (hs : o + 4 ≤ cur.size) (h1 : n0 ≤ B) (h2 : n0 ≤ g) :
    Fin2 n0 B g o v' [u0, u1, u2, u3] cur w1 (((((w1.setCell ⟨g, o, none⟩ u0).setCell ⟨g, o + 1, none⟩ u1).setCell ⟨g, o + 2, none⟩ u2).setCell ⟨g, o + 3, none⟩ u3).setCell ⟨B, 0, none⟩ v') := by
  have hko := ((((KeepsOthers.setCell w1 ⟨g, o, none⟩ u0).trans (KeepsOthers.setCell _ ⟨g, o + 1, none⟩ u1)).trans (KeepsOthers.setCell _ ⟨g, o + 2, none⟩ u2)).trans (KeepsOthers.setCell _ ⟨g, o + 3, none⟩ u3)).trans (KeepsOthers.setCell _ ⟨B, 0, none⟩ v')
  obtain ⟨cur', he, hsz, htk⟩ := set4at hg hs u0 u1 u2 u3
  rw [he] at hko ⊢
  have hrow := setRow_heap w1 g cur cur' _ _ hg
  have hB1 : Boxed (w1.setRow g cur') B 23 v := (setRow_other w1 g B _ (Ne.symm hne)).trans hB
  exact ⟨hB1.set v', ⟨cur', (Below.heap_setCell _ ⟨B, 0, none⟩ v' g hne).trans hrow, hsz, htk⟩, fun b hb hb' => (Below.heap_setCell _ ⟨B, 0, none⟩ v' b hb).trans (setRow_other w1 g b _ hb'), by simp [World.setRow], (below_setRow4 (Below.refl _ _) h2 cur').setCell (p := ⟨B, 0, none⟩) h1 v', hko⟩
theorem fin2_b {n0 B g o : Nat} {v v' u0 u1 u2 u3 : Value} {cur : Array Value} {w1 : World} (hg : w1.heap[g]? = some (.cells cur 25 (0, 0))) (hB : Boxed w1 B 23 v) (hne : g ≠ B) (hs : o + 4 ≤ cur.size) (h1 : n0 ≤ B) (h2 : n0 ≤ g) :
    Fin2 n0 B g o v' [u0, u1, u2, u3] cur w1 (((((w1.setCell ⟨B, 0, none⟩ v').setCell ⟨g, o, none⟩ u0).setCell ⟨g, o + 1, none⟩ u1).setCell ⟨g, o + 2, none⟩ u2).setCell ⟨g, o + 3, none⟩ u3) := by
  have hko := ((((KeepsOthers.setCell w1 ⟨B, 0, none⟩ v').trans (KeepsOthers.setCell _ ⟨g, o, none⟩ u0)).trans (KeepsOthers.setCell _ ⟨g, o + 1, none⟩ u1)).trans (KeepsOthers.setCell _ ⟨g, o + 2, none⟩ u2)).trans (KeepsOthers.setCell _ ⟨g, o + 3, none⟩ u3)
  have hg' : (w1.setCell ⟨B, 0, none⟩ v').heap[g]? = some (.cells cur 25 (0, 0)) := (Below.heap_setCell _ ⟨B, 0, none⟩ v' g hne).trans hg
  obtain ⟨cur', he, hsz, htk⟩ := set4at hg' hs u0 u1 u2 u3
  rw [he] at hko ⊢
  have hrow := setRow_heap _ g cur cur' _ _ hg'
  exact ⟨(setRow_other _ g B _ (Ne.symm hne)).trans (hB.set v'), ⟨cur', hrow, hsz, htk⟩, fun b hb hb' => (setRow_other _ g b _ hb').trans (Below.heap_setCell _ ⟨B, 0, none⟩ v' b hb), by simp [World.setRow], below_setRow4 ((Below.refl _ _).setCell (p := ⟨B, 0, none⟩) h1 v') h2 cur', hko⟩

theorem opIn_append_run {F : Fence} {n : Nat} {P : Program} {ops : Array Oper} (w : World) {o : Oper} {a : Act} {K : Act → World → Prop} {Q : Exit → Act → World → Prop} {E : Prop}
    (hg : o.guard = none) (s x : Operand) (t : TypeId) (hop : o.op = Op.call { callee := Callee.builtin Builtin.append, args := #[s, x], argTypes := #[t, t] }) (v u : Value) (hs : a.eval s = v) (hx : a.eval x = u) {v' : Value} {w' : World}
    (hr : (Builtin.append_ #[t, t] o.type #[v, u]).run P w = .ok v' w') (h : K (a.put o.dst v') w') : if Region.wanted o (yielded ops a.tmps) = true then o.wpIn F n P a w K Q else E := by
  have hw : Region.wanted o (yielded ops a.tmps) = true := by simp [Region.wanted, hg]
  rw [if_pos hw]
  unfold Oper.wpIn
  refine ⟨?_, ?_⟩
  · simp [Oper.about, hop, resolve, Target.leads, Sem.run_pure]
  · rw [Oper.semAt_plain F _ _ (by rw [hop]; intro c hc'; cases hc')]
    simp [execOp, hop, resolve, invoke, builtin, hs, hx, hr, Result.andThen]
    exact h

/-- Where 'l = append(l, p)' stands when some of its operations have come up. -/
structure PI (B g : Nat) (n : Nat) (v v' p : Value) (h : Nat) (T : Value → Value → Value → Value → Value → Value → Act) (W0 W3 w1 w6 w7 w67 w76 : World) (L : Nat → Bool) (a : Act) (W : World) : Prop where
  frame : ∃ t10 t11 t12 t13 t14 t15, a = T t10 t11 t12 t13 t14 t15 ∧ (L 0 = true → t10 = v) ∧ (L 1 = true → t11 = p) ∧ (L 2 = true → t12 = .int .i64 (n : Nat)) ∧ (L 3 = true → t13 = .slice (some ⟨h, 0, none⟩) 1 1) ∧ (L 4 = true → t14 = v') ∧ (L 5 = true → t15 = .pointer (some ⟨g, n * 4, none⟩))
  o4 : L 4 = true → L 0 = true ∧ L 1 = true ∧ L 2 = true ∧ L 3 = true
  o5 : L 5 = true → L 4 = true
  o6 : L 6 = true → L 4 = true ∧ L 5 = true
  o7 : L 7 = true → L 4 = true
  early : L 4 = false → W = if L 3 = true then W3 else W0
  late : L 4 = true → (L 6 = false → L 7 = false → W = w1) ∧ (L 6 = true → L 7 = false → W = w6) ∧ (L 6 = false → L 7 = true → W = w7) ∧ (L 6 = true → L 7 = true → W = w67 ∨ W = w76)

set_option maxRecDepth 100000 in
set_option maxHeartbeats 2000000 in
theorem Parts_any (x : Tm) (S : Nat → Prop) (v : Value) (w : World) (hsz : sz x ≤ 262144) (hr : Rep w S x v) (hS : ∀ b, S b → b < w.heap.size) :
    Calls Tryz.prog 22 #[v] w fun e w' => ∃ A ca, e = .returned (.slice A (sz x) ca) ∧ TRow w' (fun b => S b ∨ w.heap.size ≤ b ∧ b < w'.heap.size) ((parts 0 x).map (·.2)) A ∧ Below w.heap.size w w' := by
  obtain ⟨k, s, m, q⟩ := x
  have hr0 := hr
  obtain ⟨A, ca, rfl, hm, hrow⟩ := rep_mk.1 hr
  obtain ⟨z, hz⟩ : ∃ z, z = w.heap.size := ⟨_, rfl⟩
  refine (callsIn_wide (n := 4)).1 ?_
  refine callsIn_of_wp_marks Tryz.func22 rfl trivial ?_ rfl
  simp only [Tryz.ntmps22, List.size_toArray, List.length_cons, List.length_nil, Nat.reduceAdd, Nat.reduceSub, Array.replicate_succ, Array.replicate_zero, List.push_toArray, List.append_toArray, List.nil_append, List.cons_append]
  gi_wp2_with (refine ⟨trivial, ?_⟩; gi_at_call 52; refine (callsIn_wide.2 (partsf_any k s m A q.length ca _)).mono ?_; rintro _ _ ⟨rfl, rfl⟩)
  obtain ⟨W1, hW1⟩ : ∃ W1, W1 = (w.alloc (.cells #[.int .i64 k, .string ⟨⟨s⟩⟩, .int .i64 m, .slice A q.length ca] 25)) := ⟨_, rfl⟩
  have hs1 : W1.heap.size = z + 1 := by rw [hW1, hz]; simp
  rw [← hW1]
  have bC := (Boxed.new W1 23 (.slice none 0 0)).alloc (.cells #[.int .i64 k, .string ⟨⟨s⟩⟩, .int .i64 m, .slice A q.length ca] 25)
  have bT := heap_alloc_new (W1.alloc (.cells #[.slice none 0 0] 23)) (.cells #[.int .i64 k, .string ⟨⟨s⟩⟩, .int .i64 m, .slice A q.length ca] 25)
  rw [hs1] at bC
  rw [World.size_alloc, hs1] at bT
  have hB : Below z w ((W1.alloc (.cells #[.slice none 0 0] 23)).alloc (.cells #[.int .i64 k, .string ⟨⟨s⟩⟩, .int .i64 m, .slice A q.length ca] 25)) := by
    rw [hW1, hz]; exact (((Below.refl _ _).alloc (Nat.le_refl _) _).alloc (by simp) _).alloc (by simp; omega) _
  have hs2 : ((W1.alloc (.cells #[.slice none 0 0] 23)).alloc (.cells #[.int .i64 k, .string ⟨⟨s⟩⟩, .int .i64 m, .slice A q.length ca] 25)).heap.size = z + 3 := by simp [hs1]
  generalize (W1.alloc (.cells #[.slice none 0 0] 23)).alloc (.cells #[.int .i64 k, .string ⟨⟨s⟩⟩, .int .i64 m, .slice A q.length ca] 25) = W2 at *
  have hva : Va (z + 1) W2 := ⟨bC.lt, fun b hb => by rw [rowAt_box bC] at hb; cases hb⟩
  rw [← hz]
  have HZ : Hid (z = w.heap.size) := hz
  have hzl : z ≤ w.heap.size := by omega
  clear hz hW1 hs1
  refine wpIn_rangeFunc_ownH rfl (by omega) (gf := 90) (lb := #[.pointer (some ⟨z + 2, 0, none⟩)]) rfl trivial (enters_of Tryz.func90 (by kernel_rfl) rfl)
    (parts_stops (w0 := w) (S := S) (B := z + 1) (.mk k s m q) _ (z + 2) W2 3 (by omega) hS hsz hr0 (by rw [← HZ.out]; exact hB) hva (fun k' s' m' q' e => by injection e with e1 e2 e3 e4; subst e1 e2 e3 e4; exact ⟨A, ca, rfl, bT⟩)) Kps.trans (Kps.putObj (by omega) (by rw [← HZ.out]; omega)) (Below.refl _ _) (fun _ => rfl)
    (fun pre W => (∃ v, Boxed W (z + 1) 23 v ∧ W.ownsRow z 25 4 v pre.length (flatEls pre) ∧ True) ∧ Below z w W)
    (fun _ _ _ => False)
    (OwnFrom.and (Own.from (holdsRow_own z (z + 1) 23 25 4 (fun pre : List (El w S) => pre.length) flatEls (fun _ _ => True)) _) (ownFrom_below (by omega) (by omega)))
    (fun _ _ _ _ _ hs _ _ => hs)
    ⟨⟨_, bC, World.ownsRow_nil _ _ _ _, trivial⟩, hB⟩
    (fun x a' W => ∃ b, (∃ k s m A c ca, x.1.2.2 = .agg #[.int .i64 k, .string ⟨⟨s⟩⟩, .int .i64 m, .slice A c ca] ∧ W.heap[b]? = some (.cells #[.int .i64 k, .string ⟨⟨s⟩⟩, .int .i64 m, .slice A c ca] 25 (0, 0))) ∧ a' = { tmps := #[.agg #[.int .i64 k, .string ⟨⟨s⟩⟩, .int .i64 m, .slice A q.length ca], .pointer (some ⟨z, 0, none⟩), .slice none 0 0, .pointer (some ⟨z + 1, 0, none⟩), undef, .pointer (some ⟨b, 0, none⟩), .agg #[.int .i64 k, .string ⟨⟨s⟩⟩, .int .i64 m, .slice A q.length ca], .func (.func 90) #[] #[.pointer (some ⟨z + 2, 0, none⟩)], .int .i64 (x.1.1 : Nat), x.1.2.2, undef, undef, undef, undef, undef, undef, undef], defers := [] }) ?own ?assign ?body ?done ?stop
  case own =>
    rintro x a' _ X Y row ⟨b, ⟨k, s, m, A, c, ca, e, h⟩, e2⟩ hg hrow
    exact ⟨b, ⟨k, s, m, A, c, ca, e, (hg.block b (some_lt h) (fun e' => by obtain ⟨_, o, ho, hc⟩ := hrow b e'.symm; rw [h] at ho; cases ho; cases hc)).trans h⟩, e2⟩
  case assign =>
    rintro l pre ⟨⟨d, y, u⟩, hu, hd⟩ W K hI hK
    obtain ⟨k1, s1, m1, q1⟩ := y
    obtain ⟨A1, ca1, rfl, hm1, hrow1⟩ := rep_mk.1 hu
    clear hr0 hr hva hB bC bT hrow hS
    generalize hT : Array.foldl _ _ _ _ _ = T
    simp [El.enc] at hT
    subst hT
    gi_wp2
    obtain ⟨⟨v, bx, how, -⟩, hBW⟩ := hI
    have hb1 := Bl.a (w := W) (.cells #[.int .i64 k1, .string ⟨⟨s1⟩⟩, .int .i64 m1, .slice A1 q1.length ca1] 25)
    have hzW : z ≤ W.heap.size := by have := bx.lt; omega
    exact hK _ _ (keepsFrom_below hb1) (Kps.of_below hb1 bx.lt (by rw [← HZ.out]; exact hzW)) ⟨⟨v, boxed_below bx hb1, how.alloc _, trivial⟩, hBW.trans (hb1.mono hzW)⟩ ⟨W.heap.size, ⟨k1, s1, m1, A1, q1.length, ca1, rfl, heap_alloc_new W _⟩, rfl⟩
  case body =>
    rintro l pre ⟨⟨d, y, u⟩, hu, hd⟩ a' W hl hlr ⟨⟨v, bx, how, -⟩, hBW⟩ ⟨b, ⟨k1, s1, m1, A1, c1, ca1, hue, hbT⟩, rfl⟩ hlt
    dsimp only at hue
    subst hue
    clear hr hr0 hrow bC bT hva hB hlr hS
    have hzW : z + 1 < W.heap.size := bx.lt
    obtain ⟨n, hn⟩ : ∃ n, n = pre.length := ⟨_, rfl⟩
    have hn2 : n < 262144 := by omega
    obtain ⟨xs, hxs⟩ : ∃ xs, xs = flatEls pre := ⟨_, rfl⟩
    rw [← hn, ← hxs] at how
    obtain ⟨W3, hW3⟩ : ∃ W3, W3 = W.drew.alloc (.cells #[.int .i64 0, .string ⟨#[]⟩, .int .i64 0, .slice none 0 0] 25) := ⟨_, rfl⟩
    have how3 : W3.ownsRow z 25 4 v n xs := by rw [hW3]; exact how.drew.alloc _
    obtain ⟨i, hi, hie⟩ := Option.map_eq_some_iff.1 infoT
    simp only [Prod.mk.injEq] at hie
    obtain ⟨hiz, his, hib⟩ := hie
    have hs3 : W3.heap.size = W.heap.size + 1 := by rw [hW3, World.size_alloc]; rfl
    have hcell : ∀ j u, [Value.int .i64 0, .string ⟨#[]⟩, .int .i64 0, .slice none 0 0][j]? = some u → W3.cell? ((⟨W.heap.size, 0, none⟩ : Addr).add j) = some u := by
      intro j u hj
      have hnew : W3.heap[W.heap.size]? = some (.cells #[.int .i64 0, .string ⟨#[]⟩, .int .i64 0, .slice none 0 0] 25 (0, 0)) := by rw [hW3]; exact heap_alloc_new W.drew _
      rw [Addr.add_lit, Nat.zero_add, cell_of_row _ _ _ _ _ _ hnew]
      simpa using hj
    obtain ⟨v', w1, hrun, how', hgrow, -, hat⟩ := run_append_own_at (P := Tryz.prog) W3 z 23 23 25 i _ 4 56 Tryz.underlying23 hi hiz his hib rfl (by omega) v n xs how3 ⟨W.heap.size, 0, none⟩ 1 1 [.int .i64 0, .string ⟨#[]⟩, .int .i64 0, .slice none 0 0] rfl hcell (by simp [Value.oneCell']) (by simp [maxLen]; omega) (by omega) (by omega)
    obtain ⟨g, cap, rfl⟩ := ownsRow_succ how'
    have bx3 : Boxed W3 (z + 1) 23 v := by rw [hW3]; exact Boxed.alloc (show Boxed W.drew _ _ _ from bx) _
    have bx1 : Boxed w1 (z + 1) 23 v := bx3.kept hgrow (bx3.not_row (by decide) how3)
    have hgB : g ≠ z + 1 := fun e => (bx1.not_row (by decide) how') (by rw [e]; rfl)
    obtain ⟨hxl, hcase⟩ := how'
    obtain ⟨cur, hg1, hzg, hnc, hcm, hcsz, hctk⟩ : ∃ cur : Array Value, w1.heap[g]? = some (.cells cur 25 (0, 0)) ∧ z ≤ g ∧ n + 1 ≤ cap ∧ cap ≤ maxLen ∧ cur.size = cap * 4 ∧ cur.toList.take ((n + 1) * 4) = xs ++ [.int .i64 0, .string ⟨#[]⟩, .int .i64 0, .slice none 0 0] := by
      rcases hcase with ⟨h, _⟩ | ⟨g', cap', cur, hv, h1, h2, h3, h4, h5, h6⟩
      · cases h
      · injection hv with e1 e2 e3
        cases e1; subst e3
        exact ⟨cur, h2, h1, h3, h4, h5, h6⟩
    have hvl : ∃ A0 c0, v = .slice A0 n c0 := by
      rcases how3.2 with ⟨h, h0⟩ | ⟨g', cap', cur', h, _⟩
      · exact ⟨none, 0, by rw [h, h0]⟩
      · exact ⟨_, _, h⟩
    obtain ⟨A0, cp0, rfl⟩ := hvl
    have hf1 := fun j => frozen_of_row _ _ j _ _ hg1
    obtain ⟨t0, e0⟩ := row_some hg1 (k := n * 4) (by omega)
    obtain ⟨t1, e1⟩ := row_some hg1 (k := n * 4 + 1) (by omega)
    obtain ⟨t2, e2⟩ := row_some hg1 (k := n * 4 + 2) (by omega)
    obtain ⟨t3, e3⟩ := row_some hg1 (k := n * 4 + 3) (by omega)
    have hcb := bx1.cell
    have hfb := bx1.frozen
    have c0 : W.drew.cell? ⟨z + 1, 0, none⟩ = some (.slice A0 n cp0) := bx.cell
    obtain ⟨p0, p1, p2, p3⟩ := cell4 (show W.drew.heap[b]? = _ from hbT)
    have hlb : b < W.drew.heap.size := some_lt hbT
    have hlz : z + 1 < W.drew.heap.size := hzW
    have HW3 := Lib.hid hW3
    have HR1 := Lib.hid how3
    have HG1 := Lib.hid hg1
    have HBX1 := Lib.hid bx1
    have HBX := Lib.hid bx
    have HGR := Lib.hid hgrow
    have HBW := Lib.hid hBW
    have HN := Lib.hid hn
    have HXS := Lib.hid hxs
    have HCT := Lib.hid hctk
    have HAT := Lib.hid hat
    have HXL := Lib.hid hxl
    have HCS := Lib.hid hcsz
    have HHOW := Lib.hid how
    have hcp : (n : Int) < (n : Int) + 1 := by omega
    clear how3 hg1 bx1 bx hgrow hBW hn hxs hctk hat hxl hcsz how hcell hcase bx3 hW3 hiz his hib hi hbT
    gi_wp2
    obtain ⟨w6, hw6⟩ : ∃ w6, w6 = (((w1.setCell ⟨g, n * 4, none⟩ (.int .i64 k1)).setCell ⟨g, n * 4 + 1, none⟩ (.string ⟨⟨s1⟩⟩)).setCell ⟨g, n * 4 + 2, none⟩ (.int .i64 m1)).setCell ⟨g, n * 4 + 3, none⟩ (.slice A1 c1 ca1) := ⟨_, rfl⟩
    obtain ⟨w7, hw7⟩ : ∃ w7, w7 = w1.setCell ⟨z + 1, 0, none⟩ (.slice (some ⟨g, 0, none⟩) (n + 1) cap) := ⟨_, rfl⟩
    refine wpIn_region_inv (by kernel_rfl) (PI (z + 1) g n (.slice A0 n cp0) (.slice (some ⟨g, 0, none⟩) (n + 1) cap) (.agg #[.int .i64 k1, .string ⟨⟨s1⟩⟩, .int .i64 m1, .slice A1 c1 ca1]) W.heap.size
      (fun t10 t11 t12 t13 t14 t15 => { tmps := #[.agg #[.int .i64 k, .string ⟨⟨s⟩⟩, .int .i64 m, .slice A q.length ca], .pointer (some ⟨z, 0, none⟩), .slice none 0 0, .pointer (some ⟨z + 1, 0, none⟩), undef, .pointer (some ⟨b, 0, none⟩), .agg #[.int .i64 k, .string ⟨⟨s⟩⟩, .int .i64 m, .slice A q.length ca], .func (.func 90) #[] #[.pointer (some ⟨z + 2, 0, none⟩)], .int .i64 (d : Nat), .agg #[.int .i64 k1, .string ⟨⟨s1⟩⟩, .int .i64 m1, .slice A1 c1 ca1], t10, t11, t12, t13, t14, t15, undef], defers := [] })
      W.drew W3 w1 w6 w7 (w6.setCell ⟨z + 1, 0, none⟩ (.slice (some ⟨g, 0, none⟩) (n + 1) cap)) ((((w7.setCell ⟨g, n * 4, none⟩ (.int .i64 k1)).setCell ⟨g, n * 4 + 1, none⟩ (.string ⟨⟨s1⟩⟩)).setCell ⟨g, n * 4 + 2, none⟩ (.int .i64 m1)).setCell ⟨g, n * 4 + 3, none⟩ (.slice A1 c1 ca1))) (by kernel_rfl)
      ⟨⟨undef, undef, undef, undef, undef, undef, rfl, nofun, nofun, nofun, nofun, nofun, nofun⟩, nofun, nofun, nofun, nofun, fun _ => rfl, nofun⟩ ?_ ?_
    · have H6 := Lib.hid hw6
      have H7 := Lib.hid hw7
      have g7 : w7.heap[g]? = w1.heap[g]? := by rw [hw7]; exact Below.heap_setCell _ ⟨z + 1, 0, none⟩ _ g hgB
      have b6 : Boxed w6 (z + 1) 23 (.slice A0 n cp0) := by
        obtain ⟨cur', he, -, -⟩ := set4at HG1.out (o := n * 4) (by have := HCS.out; omega) (.int .i64 k1) (.string ⟨⟨s1⟩⟩) (.int .i64 m1) (.slice A1 c1 ca1)
        rw [hw6, he]
        exact (setRow_other _ _ _ _ (Ne.symm hgB)).trans HBX1.out
      have hcell7 : ∀ j, w7.cell? ⟨g, j, none⟩ = w1.cell? ⟨g, j, none⟩ := fun j => World.cell?_of_block (a := ⟨g, j, none⟩) g7
      have hfro7 : ∀ j, w7.frozen? ⟨g, j, none⟩ = false := fun j => frozen_of_row _ _ j _ _ (g7.trans HG1.out)
      have G7 := Lib.hid (And.intro hcell7 hfro7)
      have B6 := Lib.hid b6
      have E1 := Lib.hid (And.intro e0 (And.intro e1 (And.intro e2 (And.intro e3 hf1))))
      have E2 := Lib.hid (And.intro hcb hfb)
      have P0 := Lib.hid (And.intro c0 (And.intro p0 (And.intro p1 (And.intro p2 p3))))
      clear hw6 hw7 g7 b6 hcell7 hfro7 e0 e1 e2 e3 hf1 hcb hfb c0 p0 p1 p2 p3
      rintro L _ Wx i oo ⟨⟨t10, t11, t12, t13, t14, t15, rfl, f0, f1, f2, f3, f4, f5⟩, o4, o5, o6, o7, he, hla⟩ ho hL hd
      rcases i with _ | _ | _ | _ | _ | _ | _ | _ | i
      · obtain rfl := Option.some.inj ho
        have h4 : L 4 = false := by cases h : L 4 with | false => rfl | true => rw [(o4 h).1] at hL; cases hL
        have hcx : Wx.cell? ⟨z + 1, 0, none⟩ = some (.slice A0 n cp0) := by
          rw [he h4]
          split
          · rw [HW3.out, World.cell?_of_block (a := ⟨z + 1, 0, none⟩) (heap_alloc_old W.drew _ hlz)]; exact P0.out.1
          · exact P0.out.1
        refine wpOpIn_step rfl fun K hK => ?_
        have F0X := Lib.hid f0
        have F1X := Lib.hid f1
        have F2X := Lib.hid f2
        have F3X := Lib.hid f3
        have F4X := Lib.hid f4
        have F5X := Lib.hid f5
        have O4X := Lib.hid o4
        have O5X := Lib.hid o5
        have O6X := Lib.hid o6
        have O7X := Lib.hid o7
        have HEX := Lib.hid he
        have HLAX := Lib.hid hla
        clear f0 f1 f2 f3 f4 f5 o4 o5 o6 o7 he hla hd ho hL
        go_simp
        refine hK _ _ ?_
        exact ⟨⟨_, t11, t12, t13, t14, t15, rfl, fun _ => rfl, F1X.out, F2X.out, F3X.out, F4X.out, F5X.out⟩, fun h => ⟨rfl, (O4X.out h).2⟩, O5X.out, O6X.out, O7X.out, HEX.out, HLAX.out⟩
      · obtain rfl := Option.some.inj ho
        have h4 : L 4 = false := by cases h : L 4 with | false => rfl | true => rw [(o4 h).2.1] at hL; cases hL
        have hcx : ∀ j, Wx.cell? ⟨b, j, none⟩ = W.drew.cell? ⟨b, j, none⟩ := by
          intro j
          rw [he h4]
          split
          · rw [HW3.out, World.cell?_of_block (a := ⟨b, j, none⟩) (heap_alloc_old W.drew _ hlb)]
          · rfl
        have q0 := (hcx 0).trans P0.out.2.1
        have q1 := (hcx 1).trans P0.out.2.2.1
        have q2 := (hcx 2).trans P0.out.2.2.2.1
        have q3 := (hcx 3).trans P0.out.2.2.2.2
        refine wpOpIn_step rfl fun K hK => ?_
        have F0X := Lib.hid f0
        have F1X := Lib.hid f1
        have F2X := Lib.hid f2
        have F3X := Lib.hid f3
        have F4X := Lib.hid f4
        have F5X := Lib.hid f5
        have O4X := Lib.hid o4
        have O5X := Lib.hid o5
        have O6X := Lib.hid o6
        have O7X := Lib.hid o7
        have HEX := Lib.hid he
        have HLAX := Lib.hid hla
        clear f0 f1 f2 f3 f4 f5 o4 o5 o6 o7 he hla hd ho hL hcx
        go_simp
        refine hK _ _ ?_
        exact ⟨⟨t10, _, t12, t13, t14, t15, rfl, F0X.out, fun _ => rfl, F2X.out, F3X.out, F4X.out, F5X.out⟩, fun h => ⟨(O4X.out h).1, rfl, (O4X.out h).2.2⟩, O5X.out, O6X.out, O7X.out, HEX.out, HLAX.out⟩
      · obtain rfl := Option.some.inj ho
        obtain rfl := f0 (hd ⟨0, .data⟩ (by simp) rfl)
        refine wpOpIn_step rfl fun K hK => ?_
        have F0X := Lib.hid f0
        have F1X := Lib.hid f1
        have F2X := Lib.hid f2
        have F3X := Lib.hid f3
        have F4X := Lib.hid f4
        have F5X := Lib.hid f5
        have O4X := Lib.hid o4
        have O5X := Lib.hid o5
        have O6X := Lib.hid o6
        have O7X := Lib.hid o7
        have HEX := Lib.hid he
        have HLAX := Lib.hid hla
        clear f0 f1 f2 f3 f4 f5 o4 o5 o6 o7 he hla hd ho hL
        go_simp
        refine hK _ _ ?_
        exact ⟨⟨_, t11, _, t13, t14, t15, rfl, F0X.out, F1X.out, fun _ => rfl, F3X.out, F4X.out, F5X.out⟩, fun h => ⟨(O4X.out h).1, (O4X.out h).2.1, rfl, (O4X.out h).2.2.2⟩, O5X.out, O6X.out, O7X.out, HEX.out, HLAX.out⟩
      · obtain rfl := Option.some.inj ho
        have h4 : L 4 = false := by cases h : L 4 with | false => rfl | true => rw [(o4 h).2.2.2] at hL; cases hL
        obtain rfl : Wx = W.drew := by rw [he h4, if_neg (by simp [hL])]
        refine wpOpIn_step rfl fun K hK => ?_
        have F0X := Lib.hid f0
        have F1X := Lib.hid f1
        have F2X := Lib.hid f2
        have F3X := Lib.hid f3
        have F4X := Lib.hid f4
        have F5X := Lib.hid f5
        have O4X := Lib.hid o4
        have O5X := Lib.hid o5
        have O6X := Lib.hid o6
        have O7X := Lib.hid o7
        have HEX := Lib.hid he
        have HLAX := Lib.hid hla
        clear f0 f1 f2 f3 f4 f5 o4 o5 o6 o7 he hla hd ho hL
        go_simp
        refine hK _ _ ?_
        exact ⟨⟨t10, t11, t12, _, t14, t15, rfl, F0X.out, F1X.out, F2X.out, fun _ => rfl, F4X.out, F5X.out⟩, fun h => absurd (show L 4 = true from h) (by simp [h4]), O5X.out, O6X.out, O7X.out, fun _ => HW3.out.symm, fun h => absurd (show L 4 = true from h) (by simp [h4])⟩
      · obtain rfl := Option.some.inj ho
        have l0 := hd ⟨0, .data⟩ (by simp) rfl
        have l1 := hd ⟨1, .phase⟩ (by simp) rfl
        have l2 := hd ⟨2, .phase⟩ (by simp) rfl
        have l3 := hd ⟨3, .data⟩ (by simp) rfl
        obtain rfl := f0 l0
        obtain rfl := f3 l3
        obtain rfl : Wx = W3 := by rw [he hL, if_pos l3]
        have h7 : L 7 = false := by cases h : L 7 with | false => rfl | true => rw [o7 h] at hL; cases hL
        have h6 : L 6 = false := by cases h : L 6 with | false => rfl | true => rw [(o6 h).1] at hL; cases hL
        have h5 : L 5 = false := by cases h : L 5 with | false => rfl | true => rw [o5 h] at hL; cases hL
        have L6 := Lib.hid h6
        have L7 := Lib.hid h7
        have L5 := Lib.hid h5
        have L0 := Lib.hid (And.intro l0 (And.intro l1 (And.intro l2 l3)))
        clear h5 h6 h7 l0 l1 l2 l3
        refine wpOpIn_step rfl fun K hK => ?_
        have F0X := Lib.hid f0
        have F1X := Lib.hid f1
        have F2X := Lib.hid f2
        have F3X := Lib.hid f3
        have F4X := Lib.hid f4
        have F5X := Lib.hid f5
        have O4X := Lib.hid o4
        have O5X := Lib.hid o5
        have O6X := Lib.hid o6
        have O7X := Lib.hid o7
        have HEX := Lib.hid he
        have HLAX := Lib.hid hla
        clear f0 f1 f2 f3 f4 f5 o4 o5 o6 o7 he hla hd ho hL
        refine opIn_append_run _ rfl (.tmp 10) (.tmp 13) 23 rfl _ _ rfl rfl hrun ?_
        refine hK _ _ ?_
        exact ⟨⟨_, t11, t12, _, _, t15, rfl, F0X.out, F1X.out, F2X.out, F3X.out, fun _ => rfl, F5X.out⟩, fun _ => L0.out, fun _ => rfl, fun h => ⟨rfl, (O6X.out h).2⟩, fun _ => rfl, nofun, fun _ => ⟨fun _ _ => rfl, fun h => absurd (show L 6 = true from h) (by simp [L6.out]), fun _ h => absurd (show L 7 = true from h) (by simp [L7.out]), fun h => absurd (show L 6 = true from h) (by simp [L6.out])⟩⟩
      · obtain rfl := Option.some.inj ho
        have l4 := hd ⟨4, .data⟩ (by simp) rfl
        have l2 := hd ⟨2, .data⟩ (by simp) rfl
        obtain rfl := f4 l4
        obtain rfl := f2 l2
        have L4 := Lib.hid l4
        clear l4 l2
        refine wpOpIn_step rfl fun K hK => ?_
        have F0X := Lib.hid f0
        have F1X := Lib.hid f1
        have F2X := Lib.hid f2
        have F3X := Lib.hid f3
        have F4X := Lib.hid f4
        have F5X := Lib.hid f5
        have O4X := Lib.hid o4
        have O5X := Lib.hid o5
        have O6X := Lib.hid o6
        have O7X := Lib.hid o7
        have HEX := Lib.hid he
        have HLAX := Lib.hid hla
        clear f0 f1 f2 f3 f4 f5 o4 o5 o6 o7 he hla hd ho hL
        go_simp
        refine hK _ _ ?_
        exact ⟨⟨t10, t11, _, t13, _, _, rfl, F0X.out, F1X.out, F2X.out, F3X.out, F4X.out, fun _ => rfl⟩, O4X.out, fun _ => L4.out, fun h => ⟨(O6X.out h).1, rfl⟩, O7X.out, HEX.out, HLAX.out⟩
      · obtain rfl := Option.some.inj ho
        have l4 := hd ⟨4, .chain⟩ (by simp) rfl
        have l5 := hd ⟨5, .data⟩ (by simp) rfl
        have l1 := hd ⟨1, .data⟩ (by simp) rfl
        obtain rfl := f1 l1
        obtain rfl := f5 l5
        obtain ⟨e0, e1, e2, e3, hf1⟩ := E1.out
        have hw := hla l4
        cases h7 : L 7 with
        | false =>
          obtain rfl := hw.1 hL h7
          have LX := Lib.hid (And.intro l4 (And.intro l5 h7))
          clear l4 l5 l1 hw h7
          refine wpOpIn_step rfl fun K hK => ?_
          have F0X := Lib.hid f0
          have F1X := Lib.hid f1
          have F2X := Lib.hid f2
          have F3X := Lib.hid f3
          have F4X := Lib.hid f4
          have F5X := Lib.hid f5
          have O4X := Lib.hid o4
          have O5X := Lib.hid o5
          have O6X := Lib.hid o6
          have O7X := Lib.hid o7
          have HEX := Lib.hid he
          have HLAX := Lib.hid hla
          clear f0 f1 f2 f3 f4 f5 o4 o5 o6 o7 he hla hd ho hL
          go_simp
          refine hK _ _ ?_
          exact ⟨⟨t10, _, t12, t13, t14, _, rfl, F0X.out, F1X.out, F2X.out, F3X.out, F4X.out, F5X.out⟩, O4X.out, O5X.out, fun _ => ⟨LX.out.1, LX.out.2.1⟩, O7X.out, fun h => absurd (show L 4 = false from h) (by simp [LX.out.1]), fun _ => ⟨nofun, fun _ _ => H6.out.symm, nofun, fun _ h => absurd (show L 7 = true from h) (by simp [LX.out.2.2])⟩⟩
        | true =>
          obtain rfl := hw.2.2.1 hL h7
          obtain ⟨hc7, hf7⟩ := G7.out
          have e0' := (hc7 _).trans e0
          have e1' := (hc7 _).trans e1
          have e2' := (hc7 _).trans e2
          have e3' := (hc7 _).trans e3
          have LX := Lib.hid (And.intro l4 (And.intro l5 h7))
          clear l4 l5 l1 hw h7 e0 e1 e2 e3 hc7
          refine wpOpIn_step rfl fun K hK => ?_
          have F0X := Lib.hid f0
          have F1X := Lib.hid f1
          have F2X := Lib.hid f2
          have F3X := Lib.hid f3
          have F4X := Lib.hid f4
          have F5X := Lib.hid f5
          have O4X := Lib.hid o4
          have O5X := Lib.hid o5
          have O6X := Lib.hid o6
          have O7X := Lib.hid o7
          have HEX := Lib.hid he
          have HLAX := Lib.hid hla
          clear f0 f1 f2 f3 f4 f5 o4 o5 o6 o7 he hla hd ho hL
          go_simp
          refine hK _ _ ?_
          exact ⟨⟨t10, _, t12, t13, t14, _, rfl, F0X.out, F1X.out, F2X.out, F3X.out, F4X.out, F5X.out⟩, O4X.out, O5X.out, fun _ => ⟨LX.out.1, LX.out.2.1⟩, O7X.out, fun h => absurd (show L 4 = false from h) (by simp [LX.out.1]), fun _ => ⟨nofun, fun _ h => absurd (show L 7 = false from h) (by simp [LX.out.2.2]), nofun, fun _ _ => .inr rfl⟩⟩
      · obtain rfl := Option.some.inj ho
        have l4 := hd ⟨4, .data⟩ (by simp) rfl
        obtain rfl := f4 l4
        have hw := hla l4
        cases h6 : L 6 with
        | false =>
          obtain rfl := hw.1 h6 hL
          obtain ⟨hcb, hfb⟩ := E2.out
          have LX := Lib.hid (And.intro l4 h6)
          clear l4 hw h6
          refine wpOpIn_step rfl fun K hK => ?_
          have F0X := Lib.hid f0
          have F1X := Lib.hid f1
          have F2X := Lib.hid f2
          have F3X := Lib.hid f3
          have F4X := Lib.hid f4
          have F5X := Lib.hid f5
          have O4X := Lib.hid o4
          have O5X := Lib.hid o5
          have O6X := Lib.hid o6
          have O7X := Lib.hid o7
          have HEX := Lib.hid he
          have HLAX := Lib.hid hla
          clear f0 f1 f2 f3 f4 f5 o4 o5 o6 o7 he hla hd ho hL
          go_simp
          refine hK _ _ ?_
          exact ⟨⟨t10, t11, t12, t13, _, t15, rfl, F0X.out, F1X.out, F2X.out, F3X.out, F4X.out, F5X.out⟩, O4X.out, O5X.out, O6X.out, fun _ => LX.out.1, fun h => absurd (show L 4 = false from h) (by simp [LX.out.1]), fun _ => ⟨nofun, nofun, fun _ _ => H7.out.symm, fun h => absurd (show L 6 = true from h) (by simp [LX.out.2])⟩⟩
        | true =>
          obtain rfl := hw.2.1 h6 hL
          have hcb := B6.out.cell
          have hfb := B6.out.frozen
          have LX := Lib.hid (And.intro l4 h6)
          clear l4 hw h6
          refine wpOpIn_step rfl fun K hK => ?_
          have F0X := Lib.hid f0
          have F1X := Lib.hid f1
          have F2X := Lib.hid f2
          have F3X := Lib.hid f3
          have F4X := Lib.hid f4
          have F5X := Lib.hid f5
          have O4X := Lib.hid o4
          have O5X := Lib.hid o5
          have O6X := Lib.hid o6
          have O7X := Lib.hid o7
          have HEX := Lib.hid he
          have HLAX := Lib.hid hla
          clear f0 f1 f2 f3 f4 f5 o4 o5 o6 o7 he hla hd ho hL
          go_simp
          refine hK _ _ ?_
          exact ⟨⟨t10, t11, t12, t13, _, t15, rfl, F0X.out, F1X.out, F2X.out, F3X.out, F4X.out, F5X.out⟩, O4X.out, O5X.out, O6X.out, fun _ => LX.out.1, fun h => absurd (show L 4 = false from h) (by simp [LX.out.1]), fun _ => ⟨nofun, nofun, fun h => absurd (show L 6 = false from h) (by simp [LX.out.2]), fun _ _ => .inl rfl⟩⟩
      · simp at ho
    · rintro L _ Wx ⟨⟨t10, t11, t12, t13, t14, t15, rfl, -, -, -, -, -, -⟩, -, -, -, -, -, hla⟩ hall
      have hfin : Fin2 z (z + 1) g (n * 4) (.slice (some ⟨g, 0, none⟩) (n + 1) cap) [.int .i64 k1, .string ⟨⟨s1⟩⟩, .int .i64 m1, .slice A1 c1 ca1] cur w1 Wx := by
        have hsz4 : n * 4 + 4 ≤ cur.size := by rw [HCS.out]; omega
        rcases (hla (hall 4 (by simp))).2.2.2 (hall 6 (by simp)) (hall 7 (by simp)) with rfl | rfl
        · rw [hw6]; exact fin2_a HG1.out HBX1.out hgB hsz4 (by omega) (by omega)
        · rw [hw7]; exact fin2_b HG1.out HBX1.out hgB hsz4 (by omega) (by omega)
      clear hla hall
      have hrow3 : ∀ r, (Value.slice A0 n cp0).ownBlock = some r → z ≤ r ∧ r < W3.heap.size := HR1.out.lt
      have hbel3 : Below z W W3 := by rw [HW3.out]; exact ((Below.refl _ _).drew).alloc (by show z ≤ W.heap.size; omega) _
      have hbel : Below z W Wx := (hbel3.grown HGR.out (by omega) (fun r e => (hrow3 r e).1)).trans hfin.below
      have hko3 : KeepsOthers W W3 := by rw [HW3.out]; exact (KeepsOthers.drew W).trans (KeepsOthers.alloc W.drew _)
      have hko : KeepsOthers W Wx := (hko3.trans (KeepsOthers.of_grownBy HGR.out fun j o ej hj => by
        rcases HR1.out.2 with ⟨h, _⟩ | ⟨g', cap', cur', h, _, hgb, _⟩
        · rw [h] at ej; simp [Value.ownBlock] at ej
        · rw [h] at ej
          obtain rfl : g' = j := by simpa [Value.ownBlock] using ej
          rw [hgb] at hj; cases hj; rfl)).trans hfin.others
      obtain ⟨cur', hg', hsz', htk'⟩ := hfin.row
      have hglt : g < Wx.heap.size := some_lt hg'
      refine ⟨hko.from _, Kps.appd HBX.out hfin.box ?_ ?_ (by rw [← HZ.out]; exact hbel) (fun r e => by rw [← show g = r by simpa [Value.ownBlock] using e]; exact hglt), ⟨_, hfin.box, ⟨?_, .inr ⟨g, cap, cur', ?_, hzg, hg', ?_, hcm, ?_, ?_⟩⟩, trivial⟩, HBW.out.trans hbel⟩
      · rcases HAT.out with h | h
        · exact .inl h
        · exact .inr ⟨_, h, by omega⟩
      · intro r o hr hrB hrv
        have hrl := some_lt hr
        have hrg : r ≠ g := by
          rintro rfl
          rcases HAT.out with h | h
          · exact hrv h
          · have : r = W3.heap.size := by simpa [Value.ownBlock] using h
            omega
        rw [hfin.rest r hrB hrg, HGR.out.block r (by omega) hrv, HW3.out, heap_alloc_old W.drew _ hrl]
        exact hr
      · have hx0 := HXL.out
        have hx1 := HN.out
        have hx2 := HHOW.out.1
        rw [HXS.out] at hx2
        rw [flatEls_snoc, List.length_append, hx2, List.length_append, ← HN.out]
        simp only [vcells, List.length_cons, List.length_nil]
        omega
      · rw [List.length_append, ← HN.out]; rfl
      · rw [List.length_append, ← HN.out]; simpa using hnc
      · rw [hsz', HCS.out]
      · have hxx : cur.toList.take (n * 4) = xs := by
          have h1 := congrArg (List.take (n * 4)) HCT.out
          rw [List.take_take, Nat.min_eq_left (by omega), List.take_left' HHOW.out.1] at h1
          exact h1
        rw [List.length_append, ← HN.out]
        simp only [List.length_cons, List.length_nil, Nat.zero_add, Nat.add_mul, Nat.one_mul]
        rw [htk', hxx, HXS.out, flatEls_snoc]
        rfl
  case done =>
    rintro D ys W hD hys ⟨⟨v, bx, how, -⟩, hBW⟩ hK
    have hc := bx.cell
    have hyl : ys.length = sz (.mk k s m q) := by rw [← parts_len 0, ← hys, List.length_map]
    have hym : ys.map (fun x => x.1.2.1) = (parts 0 (.mk k s m q)).map (·.2) := by rw [← hys, List.map_map]; rfl
    have how2 := ownsRow_putObj how (.deferred none) hK rfl
    have hbel : Below z w (W.putObj D (.deferred none)) := hBW.trans (belowK_b (w := w) hzl W D _ _ (by have := HZ.out; omega) hK rfl rfl)
    have hvl : ∃ A0 c0, v = .slice A0 ys.length c0 := by
      rcases how.2 with ⟨h, h0⟩ | ⟨g', cap', cur', h, _⟩
      · exact ⟨none, 0, by rw [h, h0]⟩
      · exact ⟨_, _, h⟩
    obtain ⟨A0, cp0, rfl⟩ := hvl
    have HOW := Lib.hid how2
    have HBE := Lib.hid hbel
    clear how how2 hbel
    gi_wp2
    refine ⟨by simp, .inl ⟨_, _, rfl, run_takeDeferred hK, ?_⟩⟩
    refine ⟨_, results_tmp rfl _ _ _, A0, cp0, by rw [← hyl]; rfl, ?_, by rw [← HZ.out]; exact HBE.out⟩
    have hels := els_keep (w' := W.putObj D (.deferred none)) (S' := fun b => S b ∨ w.heap.size ≤ b ∧ b < (W.putObj D (.deferred none)).heap.size) (fun b hb => .inl hb) (fun c o hc => HBE.out.cell (p := ⟨c, o, none⟩) (by have := hS c hc; have := HZ.out; show c < z; omega)) _ _ (els_flat ys)
    rw [hym] at hels
    exact trow_of_own HOW.out hels (by rw [← hym, List.length_map]) (fun b hb => .inr (by have := HOW.out.lt b hb; rw [← HZ.out]; exact this))
  case stop =>
    rintro D c pre W _ _ h _
    exact h.elim
end Go.Proofs.YticofjbngfjjlaaGreatDoor.Te

