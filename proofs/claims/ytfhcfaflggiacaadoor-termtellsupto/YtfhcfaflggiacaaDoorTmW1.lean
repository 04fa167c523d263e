/- Size, Parts. -/
import Derived.Test.YtfhcfaflggiacaaDoorTmIt
import Derived.Sort.CutIn
namespace Go.Proofs.YtfhcfaflggiacaaDoor
open Go.RowKit Go.Shelf
open Tt
attribute [local go_sem] Oper.semAt_some

theorem rowAt_box {W : World} {B : Nat} {t : TypeId} {v : Value} (h : Boxed W B t v) : rowAt W B = v.ownBlock := by
  rw [rowAt, h.cell]; rfl
/-- The box B gets another value that leads nowhere. -/
theorem Kps.put {n0 B : Nat} {W : World} {t : TypeId} {v v' : Value} (h : Boxed W B t v) (hn : n0 ≤ B) (hv' : v'.ownBlock = none) : Kps n0 B W (W.setCell ⟨B, 0, none⟩ v') := by
  have hr := rowAt_box (h.set v')
  rw [hv'] at hr
  refine ⟨(Below.refl _ _).setCell (p := ⟨B, 0, none⟩) hn v', fun b o hb _ hm => ?_, fun b _ hm => ?_, fun hv => ⟨(h.set v').lt, fun b hb => ?_⟩⟩
  · rw [Below.heap_setCell _ _ _ b (fun e => hm (.inl e))]; exact hb
  · rcases hm with rfl | hm
    · exact .inl rfl
    · rw [hr] at hm; cases hm
  · rw [hr] at hb; cases hb

set_option maxRecDepth 100000 in
set_option maxHeartbeats 2000000 in
theorem Size_any (x : Tm) (S : Nat → Prop) (v : Value) (w : World) (hsz : sz x ≤ 262144) (hr : Rep w S x v) (hS : ∀ b, S b → b < w.heap.size) :
    Calls Tryd.prog 21 #[v] w fun e w' => e = .returned (.int .i64 (sz x : Nat)) ∧ Below w.heap.size w w' := by
  obtain ⟨k, s, m, q⟩ := x
  have hr0 := hr
  obtain ⟨A, ca, rfl, hm, hrow⟩ := rep_mk.1 hr
  obtain ⟨z, hz⟩ : ∃ z, z = w.heap.size := ⟨_, rfl⟩
  refine (callsIn_wide (n := 4)).1 ?_
  refine callsIn_of_wp_marks Tryd.func21 rfl trivial ?_ rfl
  simp only [Tryd.ntmps21, List.size_toArray, List.length_cons, List.length_nil, Nat.reduceAdd, Nat.reduceSub, Array.replicate_succ, Array.replicate_zero, List.push_toArray, List.append_toArray, List.nil_append, List.cons_append]
  gi_wp2_with (refine ⟨trivial, ?_⟩; gi_at_call 44; refine (callsIn_wide.2 (partsf_any k s m A q.length ca _)).mono ?_; rintro _ _ ⟨rfl, rfl⟩)
  have hV : Value.ownBlock (.int .i64 0) = none := rfl
  obtain ⟨W1, hW1⟩ : ∃ W1, W1 = w.alloc (.cells #[.int .i64 k, .string ⟨⟨s⟩⟩, .int .i64 m, .slice A q.length ca] 25) := ⟨_, rfl⟩
  rw [← hW1]
  have hs1 : W1.heap.size = z + 1 := by rw [hW1, hz]; simp
  have bC := (Boxed.new W1 3 (.int .i64 0)).alloc (.cells #[.int .i64 k, .string ⟨⟨s⟩⟩, .int .i64 m, .slice A q.length ca] 25)
  have bT := heap_alloc_new (W1.alloc (.cells #[.int .i64 0] 3)) (.cells #[.int .i64 k, .string ⟨⟨s⟩⟩, .int .i64 m, .slice A q.length ca] 25)
  rw [hs1] at bC
  rw [World.size_alloc, hs1] at bT
  have hB : Below z w ((W1.alloc (.cells #[.int .i64 0] 3)).alloc (.cells #[.int .i64 k, .string ⟨⟨s⟩⟩, .int .i64 m, .slice A q.length ca] 25)) := by
    rw [hW1, hz]; exact (((Below.refl _ _).alloc (Nat.le_refl _) _).alloc (by simp) _).alloc (by simp; omega) _
  have hs2 : ((W1.alloc (.cells #[.int .i64 0] 3)).alloc (.cells #[.int .i64 k, .string ⟨⟨s⟩⟩, .int .i64 m, .slice A q.length ca] 25)).heap.size = z + 3 := by simp [hs1]
  generalize (W1.alloc (.cells #[.int .i64 0] 3)).alloc (.cells #[.int .i64 k, .string ⟨⟨s⟩⟩, .int .i64 m, .slice A q.length ca] 25) = W2 at *
  have hva : Va (z + 1) W2 := ⟨bC.lt, fun b hb => by rw [rowAt_box bC] at hb; cases hb⟩
  have hlen := parts_len 0 (.mk k s m q)
  rw [← hz]
  have HZ : Hid (z = w.heap.size) := hz
  have hzl : z ≤ w.heap.size := by omega
  clear hz hW1 hs1
  refine wpIn_rangeFunc_ownG rfl (by omega) (gf := 56) (lb := #[.pointer (some ⟨z + 2, 0, none⟩)]) rfl trivial (enters_of Tryd.func56 (by kernel_rfl) rfl)
    (parts_stops (w0 := w) (S := S) (B := z + 1) (.mk k s m q) _ (z + 2) W2 3 (by omega) hS hsz hr0 (by rw [← HZ.out]; exact hB) hva (fun k' s' m' q' e => by injection e with e1 e2 e3 e4; subst e1 e2 e3 e4; exact ⟨A, ca, rfl, bT⟩)) Kps.trans (Kps.putObj (by omega) (by rw [← HZ.out]; omega)) (Below.refl _ _) (fun _ => rfl)
    (fun pre W => Boxed W (z + 1) 3 (.int .i64 (pre.length : Nat)) ∧ Below z w W)
    (fun _ _ _ => False)
    (OwnFrom.and (Own.from (boxed_own (z + 1) 3 (fun pre : List (El w S) => .int .i64 (pre.length : Nat))) _) (ownFrom_below (by omega) (by omega)))
    (fun _ _ _ _ _ hs _ _ => hs)
    ⟨bC, hB⟩
    (fun x => { tmps := #[.agg #[.int .i64 k, .string ⟨⟨s⟩⟩, .int .i64 m, .slice A q.length ca], .pointer (some ⟨z, 0, none⟩), .int .i64 0, .pointer (some ⟨z + 1, 0, none⟩), .agg #[.int .i64 k, .string ⟨⟨s⟩⟩, .int .i64 m, .slice A q.length ca], .func (.func 56) #[] #[.pointer (some ⟨z + 2, 0, none⟩)], .int .i64 (x.1.1 : Nat), x.1.2.2, undef, undef, undef], defers := [] }) ?assign ?body ?done ?stop
  case assign =>
    intro l x W K hK
    gi_wp2
    simpa [El.enc] using hK
  case body =>
    rintro l pre x W ⟨bx, hBW⟩ hlt
    have hc := bx.cell
    have hf := bx.frozen
    gi_wp2
    have e1 : ((pre.length : Nat) : Int) + 1 = (((pre ++ [x]).length : Nat) : Int) := by simp
    have hz0 := HZ.out
    refine ⟨(KeepsOthers.setCell _ _ _).from _, Kps.put bx (by omega) rfl, ?_, hBW.setCell (p := ⟨z + 1, 0, none⟩) (by show z ≤ z + 1; omega) _⟩
    show Boxed _ _ _ (.int .i64 (((pre ++ [x]).length : Nat) : Int))
    rw [← e1]
    exact bx.set _
  case done =>
    rintro D ys W hD hys ⟨bx, hBW⟩ hK
    have hc := bx.cell
    gi_wp2
    refine ⟨by simp, .inl ⟨_, _, rfl, run_takeDeferred hK, ?_⟩⟩
    have e1 : ys.length = sz (.mk k s m q) := by rw [← hlen, ← hys, List.length_map]
    refine ⟨_, results_tmp rfl _ _ _, by rw [← e1]; rfl, ?_⟩
    rw [← HZ.out]
    exact hBW.trans (belowK_b (w := w) hzl W D _ _ (by have := HZ.out; omega) hK rfl rfl)
  case stop =>
    rintro D c pre W _ _ h _
    exact h.elim
end Go.Proofs.YtfhcfaflggiacaaDoor
