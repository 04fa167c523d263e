/- Valid. -/
import Derived.Test.YtiidooponlbnmaaDoorTmW1
import Derived.Test.YtiidooponlbnmaaDoorTmW2
namespace Go.Proofs.YtiidooponlbnmaaDoor.Te
open Go.RowKit Go.Shelf
open Tt
attribute [local go_sem] Oper.semAt_some

set_option maxHeartbeats 1000000 in
set_option maxRecDepth 100000 in
theorem Valid1_any (d : Nat) (di : Int) (hd : di = d) (x : Tm) (S : Nat → Prop) (v : Value) (w : World) (hr : Rep w S x v) (hS : ∀ b, S b → b < w.heap.size) :
    Calls Tryd.prog 47 #[.int .i64 di, v] w fun e w' => e = .returned (.bool (odd (d, x))) ∧ Below w.heap.size w w' := by
  obtain ⟨k, s, n, l⟩ := x
  have hr0 := hr
  obtain ⟨A, ca, rfl, hm, hrow⟩ := rep_mk.1 hr
  have HB := Lib.hid (Bl.a (w := w) (.cells #[.int .i64 k, .string ⟨⟨s⟩⟩, .int .i64 n, .slice A l.length ca] 33))
  have HO : Hid (odd (d, .mk k s n l) = (decide (16 < di) || mis (.mk k s n l))) := by
    rw [Hid, odd, hd]
    congr 1
    simp; omega
  by_cases h16 : 16 < di
  · clear hr hr0 hm hrow hd
    go_enter Tryd.func47, Tryd.ntmps47
    go_wp2
    go_ret
    refine ⟨ret_b ?_, HB.out⟩
    rw [HO.out]; simp [h16]
  · have HM := Lib.hid (misshapen_any (.mk k s n l) S _ _ (rep_below hr0 HB.out hS) (fun b hb => Nat.lt_of_lt_of_le (hS b hb) HB.out.size))
    have HO2 : Hid (odd (d, .mk k s n l) = mis (.mk k s n l)) := by rw [Hid, HO.out]; simp [h16]
    clear hr hr0 hm hrow hd HO
    go_enter Tryd.func47, Tryd.ntmps47
    go_wp2_with fail
    refine HM.out.mono ?_
    rintro _ w1 ⟨rfl, hb1⟩
    have HB1 : Hid (Below w.heap.size w w1) := HB.out.trans (hb1.mono HB.out.size)
    clear hb1 HM
    generalize mis (.mk k s n l) = M at *
    go_wp2
    go_ret
    exact ⟨ret_b HO2.out.symm, HB1.out⟩

theorem keepsFrom_below {B : Nat} {W W' : World} (h : Below W.heap.size W W') : KeepsFrom B W W' := ⟨h.size, fun k _ _ hk _ => (h.block k (some_lt hk)).trans hk⟩
theorem boxed_below {W W' : World} {b : Nat} {t : TypeId} {v : Value} (h : Boxed W b t v) (hb : Below W.heap.size W W') : Boxed W' b t v := (hb.block b h.lt).trans h

theorem results_box {fn : Func} {p : Tmp} (h : fn.results = #[.cell p 4]) (tmps : Array Value) (w : World) (b : Nat) (c : Bool) (hp : tmps.getD p undef = .pointer (some ⟨b, 0, none⟩)) (hb : Boxed w b 4 (.bool c)) :
    (results fn tmps).run Tryd.prog w = .ok (.bool c) w := by
  have hp' : tmps[p]?.getD undef = .pointer (some ⟨b, 0, none⟩) := by simpa using hp
  have hc := hb.cell
  simp [results, h, hp', asAddr, loadVar, hc, go_sem]

set_option maxRecDepth 100000 in
set_option maxHeartbeats 2000000 in
theorem some_any (x : Tm) (S : Nat → Prop) (v : Value) (w : World) (hsz : sz x ≤ 262144) (hr : Rep w S x v) (hS : ∀ b, S b → b < w.heap.size) :
    Calls Tryd.prog 46 #[v, .func (.func 47) #[] #[]] w fun e w' => e = .returned (.bool ((parts 0 x).any odd)) ∧ Below w.heap.size w w' := by
  obtain ⟨k, s, m, q⟩ := x
  have hr0 := hr
  obtain ⟨A, ca, rfl, hm, hrow⟩ := rep_mk.1 hr
  obtain ⟨z, hz⟩ : ∃ z, z = w.heap.size := ⟨_, rfl⟩
  refine (callsIn_wide (n := 4)).1 ?_
  refine callsIn_of_wp_marks Tryd.func46 rfl trivial ?_ rfl
  simp only [Tryd.ntmps46, List.size_toArray, List.length_cons, List.length_nil, Nat.reduceAdd, Nat.reduceSub, Array.replicate_succ, Array.replicate_zero, List.push_toArray, List.append_toArray, List.nil_append, List.cons_append]
  gi_wp2_with (refine ⟨trivial, ?_⟩; gi_at_call 59; refine (callsIn_wide.2 (partsf_any k s m A q.length ca _)).mono ?_; rintro _ _ ⟨rfl, rfl⟩)
  obtain ⟨W1, hW1⟩ : ∃ W1, W1 = ((w.alloc (.cells #[.int .i64 k, .string ⟨⟨s⟩⟩, .int .i64 m, .slice A q.length ca] 33)).alloc (.cells #[.func (.func 47) #[] #[]] 64)) := ⟨_, rfl⟩
  have bF := (((Boxed.new (w.alloc (.cells #[.int .i64 k, .string ⟨⟨s⟩⟩, .int .i64 m, .slice A q.length ca] 33)) 64 (.func (.func 47) #[] #[])).alloc (.cells #[.bool false] 4)).alloc (.cells #[.int .i64 k, .string ⟨⟨s⟩⟩, .int .i64 m, .slice A q.length ca] 33))
  have hs1 : W1.heap.size = z + 2 := by rw [hW1, hz]; simp
  rw [← hW1, World.size_alloc, ← hz] at bF
  rw [← hW1]
  have bC := (Boxed.new W1 4 (.bool false)).alloc (.cells #[.int .i64 k, .string ⟨⟨s⟩⟩, .int .i64 m, .slice A q.length ca] 33)
  have bT := heap_alloc_new (W1.alloc (.cells #[.bool false] 4)) (.cells #[.int .i64 k, .string ⟨⟨s⟩⟩, .int .i64 m, .slice A q.length ca] 33)
  rw [hs1] at bC
  rw [World.size_alloc, hs1] at bT
  have hB : Below z w ((W1.alloc (.cells #[.bool false] 4)).alloc (.cells #[.int .i64 k, .string ⟨⟨s⟩⟩, .int .i64 m, .slice A q.length ca] 33)) := by
    rw [hW1, hz]; exact ((((Below.refl _ _).alloc (Nat.le_refl _) _).alloc (by simp) _).alloc (by simp; omega) _).alloc (by simp; omega) _
  have hs2 : ((W1.alloc (.cells #[.bool false] 4)).alloc (.cells #[.int .i64 k, .string ⟨⟨s⟩⟩, .int .i64 m, .slice A q.length ca] 33)).heap.size = z + 4 := by simp [hs1]
  generalize (W1.alloc (.cells #[.bool false] 4)).alloc (.cells #[.int .i64 k, .string ⟨⟨s⟩⟩, .int .i64 m, .slice A q.length ca] 33) = W2 at *
  have hva : Va (z + 2) W2 := ⟨bC.lt, fun b hb => by rw [rowAt_box bC] at hb; cases hb⟩
  rw [← hz]
  have HZ : Hid (z = w.heap.size) := hz
  have hzl : z ≤ w.heap.size := by omega
  clear hz hW1 hs1
  refine wpIn_rangeFunc_ownH rfl (by omega) (gf := 75) (lb := #[.pointer (some ⟨z + 3, 0, none⟩)]) rfl trivial (enters_of Tryd.func75 (by kernel_rfl) rfl)
    (parts_stops (w0 := w) (S := S) (B := z + 2) (.mk k s m q) _ (z + 3) W2 3 (by omega) hS hsz hr0 (by rw [← HZ.out]; exact hB) hva (fun k' s' m' q' e => by injection e with e1 e2 e3 e4; subst e1 e2 e3 e4; exact ⟨A, ca, rfl, bT⟩)) Kps.trans (Kps.putObj (by omega) (by rw [← HZ.out]; omega)) (Below.refl _ _) (fun _ => rfl)
    (fun pre W => Boxed W (z + 2) 4 (.bool false) ∧ Boxed W (z + 1) 64 (.func (.func 47) #[] #[]) ∧ Below z w W ∧ (pre.map El.pr).any odd = false)
    (fun c pre W => Boxed W (z + 2) 4 (.bool true) ∧ Below z w W ∧ (c = .ret ∧ (pre.map El.pr).any odd = true))
    (OwnFrom.and (Own.from (boxed_own (z + 2) 4 (fun _ : List (El w S) => .bool false)) _) (OwnFrom.and (Own.from (boxed_own (z + 1) 64 (fun _ : List (El w S) => .func (.func 47) #[] #[])) _) (OwnFrom.and (ownFrom_below (by omega) (by omega)) (ownFrom_pure _ _))))
    (fun c => OwnFrom.and (Own.from (boxed_own (z + 2) 4 (fun _ : List (El w S) => .bool true)) _) (OwnFrom.and (ownFrom_below (by omega) (by omega)) (ownFrom_pure _ _)))
    ⟨bC, bF, hB, rfl⟩
    (fun x a' W => ∃ b, (∃ k s m A c ca, x.1.2.2 = .agg #[.int .i64 k, .string ⟨⟨s⟩⟩, .int .i64 m, .slice A c ca] ∧ W.heap[b]? = some (.cells #[.int .i64 k, .string ⟨⟨s⟩⟩, .int .i64 m, .slice A c ca] 33 (0, 0))) ∧ a' = { tmps := #[.agg #[.int .i64 k, .string ⟨⟨s⟩⟩, .int .i64 m, .slice A q.length ca], .func (.func 47) #[] #[], .pointer (some ⟨z, 0, none⟩), .pointer (some ⟨z + 1, 0, none⟩), .pointer (some ⟨z + 2, 0, none⟩), .int .i64 (x.1.1 : Nat), .pointer (some ⟨b, 0, none⟩), .agg #[.int .i64 k, .string ⟨⟨s⟩⟩, .int .i64 m, .slice A q.length ca], .func (.func 75) #[] #[.pointer (some ⟨z + 3, 0, none⟩)], .int .i64 (x.1.1 : Nat), x.1.2.2, undef, undef, undef, undef], defers := [] }) ?own ?assign ?body ?done ?stop
  case own =>
    rintro x a' _ X Y row ⟨b, ⟨k, s, m, A, c, ca, e, h⟩, e2⟩ hg hrow
    exact ⟨b, ⟨k, s, m, A, c, ca, e, (hg.block b (some_lt h) (fun e' => by obtain ⟨_, o, ho, hc⟩ := hrow b e'.symm; rw [h] at ho; cases ho; cases hc)).trans h⟩, e2⟩
  case assign =>
    rintro l pre ⟨⟨d, y, u⟩, hu, hd⟩ W K hI hK
    obtain ⟨k1, s1, m1, q1⟩ := y
    obtain ⟨A1, ca1, rfl, hm1, hrow1⟩ := rep_mk.1 hu
    clear hr0 hr hva hB bC bF bT hrow hS
    generalize hT : Array.foldl _ _ _ _ _ = T
    simp [El.enc] at hT
    subst hT
    gi_wp2
    obtain ⟨bx, bf, hBW, hany⟩ := hI
    have hb1 := Bl.a (w := W) (.cells #[.int .i64 k1, .string ⟨⟨s1⟩⟩, .int .i64 m1, .slice A1 q1.length ca1] 33)
    have hzW : z ≤ W.heap.size := by have := bx.lt; omega
    exact hK _ _ (keepsFrom_below hb1) (Kps.of_below hb1 bx.lt (by rw [← HZ.out]; exact hzW)) ⟨boxed_below bx hb1, boxed_below bf hb1, hBW.trans (hb1.mono hzW), hany⟩ ⟨W.heap.size, ⟨k1, s1, m1, A1, q1.length, ca1, rfl, heap_alloc_new W _⟩, rfl⟩
  case body =>
    rintro l pre ⟨⟨d, y, u⟩, hu, hd⟩ a' W hl hlr ⟨bx, bf, hBW, hany⟩ ⟨b, ⟨k1, s1, m1, A1, c1, ca1, hue, hbT⟩, rfl⟩ hlt
    dsimp only at hue
    subst hue
    have hf := bx.frozen
    have hcf := bf.cell
    obtain ⟨c0, c1', c2, c3⟩ := cell4 hbT
    have hzW : z ≤ W.heap.size := by have := bx.lt; omega
    have hV := Valid1_any d (d : Nat) rfl y S _ W (rep_at hu hBW (fun b hb => by have := hS b hb; have := HZ.out; omega)) (fun b hb => Nat.lt_of_lt_of_le (hS b hb) (by rw [← HZ.out]; exact hzW))
    have BX := Lib.hid bx
    have BF := Lib.hid bf
    clear hr hr0 hrow bC bF bT hva hB hlr
    cases ho : odd (d, y)
    · rw [ho] at hV
      have HV := Lib.hid hV
      clear hV bx bf hf
      gi_wp2_with (refine ⟨trivial, ?_⟩; gi_at_call 47; refine (callsIn_wide.2 HV.out).mono ?_; rintro _ w1 ⟨rfl, hb1⟩)
      refine ⟨keepsFrom_below hb1, Kps.of_below hb1 BX.out.lt (by rw [← HZ.out]; exact hzW), boxed_below BX.out hb1, boxed_below BF.out hb1, hBW.trans (hb1.mono hzW), ?_⟩
      rw [List.map_append, List.any_append, hany]
      simp [El.pr, ho]
    · rw [ho] at hV
      have HV := Lib.hid hV
      clear hV bx bf hf
      gi_wp2_with fail
      refine ⟨trivial, ?_⟩
      gi_at_call 47
      refine (callsIn_wide.2 HV.out).mono ?_
      rintro _ w1 ⟨rfl, hb1⟩
      have bx1 := boxed_below BX.out hb1
      have hc1 := bx1.cell
      have hf1 := bx1.frozen
      gi_wp2
      refine ⟨(keepsFrom_below hb1).trans ((KeepsOthers.setCell _ _ _).from _), bx1.set _, (hBW.trans (hb1.mono hzW)).setCell (p := ⟨z + 2, 0, none⟩) (by show z ≤ z + 2; omega) _, rfl, ?_⟩
      rw [List.map_append, List.any_append]
      simp [El.pr, ho]
  case done =>
    rintro D ys W hD hys ⟨bx, bf, hBW, hany⟩ hK
    have hc := bx.cell
    have hf := bx.frozen
    have hne : z + 2 ≠ D := by omega
    gi_wp2
    have hK2 : (W.setCell ⟨z + 2, 0, none⟩ (.bool false)).heap[D]? = some (.deferred (some [])) := by rw [Below.heap_setCell _ _ _ D (fun e => hne e.symm)]; exact hK
    refine ⟨by simp, .inl ⟨_, _, rfl, run_takeDeferred hK2, ?_⟩⟩
    have bx2 : Boxed ((W.setCell ⟨z + 2, 0, none⟩ (.bool false)).putObj D (.deferred none)) (z + 2) 4 (.bool false) := (World.putObj_heap_other (by omega)).trans (bx.set _)
    refine ⟨_, results_box rfl _ _ _ _ rfl bx2, ?_, ?_⟩
    · rw [← hys, hany]
    · rw [← HZ.out]
      exact (hBW.setCell (p := ⟨z + 2, 0, none⟩) (by show z ≤ z + 2; omega) _).trans (belowK_b (w := w) hzl _ D _ _ (by have := HZ.out; omega) hK2 rfl rfl)
  case stop =>
    rintro D c pre W hD hpre ⟨bx, hBW, rfl, hany⟩ hK
    have hc := bx.cell
    have hne : z + 2 ≠ D := by omega
    gi_wp2
    refine ⟨by simp, .inl ⟨_, _, rfl, run_takeDeferred hK, ?_⟩⟩
    have bx2 : Boxed (W.putObj D (.deferred none)) (z + 2) 4 (.bool true) := (World.putObj_heap_other (by omega)).trans bx
    refine ⟨_, results_box rfl _ _ _ _ rfl bx2, ?_, ?_⟩
    · obtain ⟨t, ht⟩ := hpre
      rw [← ht, List.any_append, hany]; rfl
    · rw [← HZ.out]
      exact hBW.trans (belowK_b (w := w) hzl _ D _ _ (by have := HZ.out; omega) hK rfl rfl)

set_option maxRecDepth 100000 in
set_option maxHeartbeats 1000000 in
theorem Valid_any (x : Tm) (S : Nat → Prop) (v : Value) (w : World) (hsz : sz x ≤ 262144) (hr : Rep w S x v) (hS : ∀ b, S b → b < w.heap.size) :
    Calls Tryd.prog 23 #[v] w fun e w' => e = .returned (.bool (vld 0 x)) ∧ Below w.heap.size w w' := by
  obtain ⟨R, hR⟩ : ∃ R, R = (parts 0 x).any odd := ⟨_, rfl⟩
  have hv : vld 0 x = !R := by rw [vld, hR]
  rw [hv]
  have hS0 := some_any x S
  rw [← hR] at hS0
  clear hR hv
  obtain ⟨k, s, m, q⟩ := x
  have hr0 := hr
  obtain ⟨A, ca, rfl, hm, hrow⟩ := rep_mk.1 hr
  have HB := Lib.hid (Bl.a (w := w) (.cells #[.int .i64 k, .string ⟨⟨s⟩⟩, .int .i64 m, .slice A q.length ca] 33))
  have HS := Lib.hid (hS0 _ _ hsz (rep_below hr0 HB.out hS) (fun b hb => Nat.lt_of_lt_of_le (hS b hb) HB.out.size))
  clear hr hr0 hm hrow hsz hS hS0
  go_enter Tryd.func23, Tryd.ntmps23
  go_wp2_with fail
  refine HS.out.mono ?_
  rintro _ w1 ⟨rfl, hb1⟩
  have HB1 : Hid (Below w.heap.size w w1) := HB.out.trans (hb1.mono HB.out.size)
  clear hb1 HS
  go_wp2
  go_ret
  exact ⟨rfl, HB1.out⟩
end Go.Proofs.YtiidooponlbnmaaDoor.Te
