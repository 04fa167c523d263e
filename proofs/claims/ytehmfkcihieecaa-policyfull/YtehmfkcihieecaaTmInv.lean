/- A region in whatever order, by what holds when some of its operations have come up. -/
import Derived.Test.YtehmfkcihieecaaRows
import Derived.RegionTactic
import Derived.OrdersIn
namespace Go.Proofs.Ytehmfkcihieecaa.Te


theorem count_set : ∀ (l : List Bool) (i : Nat), l[i]? = some false → (l.set i true).countP (!·) + 1 = l.countP (!·)
  | [], i, h => by simp at h
  | b :: l, 0, h => by
    obtain rfl : b = false := by simpa using h
    simp
  | b :: l, i + 1, h => by
    have ih := count_set l i (by simpa using h)
    rw [List.set_cons_succ, List.countP_cons, List.countP_cons]
    omega
theorem count_zero : ∀ (l : List Bool), l.countP (!·) = 0 → ∀ i, i < l.length → l[i]? = some true
  | [], _, i, h => by simp at h
  | b :: l, hc, i, h => by
    rw [List.countP_cons] at hc
    cases i with
    | zero =>
      cases b
      · simp at hc
      · rfl
    | succ i => exact count_zero l (by omega) i (by simpa using h)

section
variable {P : Program} {ops : Array Oper} {Q : Exit → Act → World → Prop}

theorem mem_ready {listed : Array Bool} {i : Nat} : i ∈ Region.ready .any ops listed ↔ ∃ o, ops[i]? = some o ∧ listed.getD i true = false ∧ ∀ e ∈ o.after, Region.binds .any e = true → listed.getD e.on false = true := by
  simp only [Region.ready, List.mem_filter, List.mem_range, Bool.and_eq_true, Bool.not_eq_true']
  constructor
  · rintro ⟨h1, h2, h3⟩
    rw [Array.getElem?_eq_getElem h1, Option.map_some, Option.getD_some, Array.all_eq_true'] at h3
    refine ⟨_, Array.getElem?_eq_getElem h1, h2, fun e he hb => ?_⟩
    have := h3 e he
    rw [hb] at this
    simpa using this
  · rintro ⟨o, h1, h2, h3⟩
    refine ⟨(Array.getElem?_eq_some_iff.1 h1).1, h2, ?_⟩
    rw [h1, Option.map_some, Option.getD_some, Array.all_eq_true']
    intro e he
    cases hb : Region.binds .any e
    · rfl
    · rw [h3 e he hb]; rfl

theorem wpAny_inv (I : (Nat → Bool) → Act → World → Prop) (hdep : ∀ (i : Nat) (o : Oper), ops[i]? = some o → ∀ e ∈ o.after, Region.binds .any e = true → e.on < i)
    (hop : ∀ L a w i o, I L a w → ops[i]? = some o → L i = false → (∀ e ∈ o.after, Region.binds .any e = true → L e.on = true) → wpOp P ops Q i (I (fun j => if j = i then true else L j)) a w)
    (hdone : ∀ L a w, I L a w → (∀ i, i < ops.size → L i = true) → Q .normal a w) :
    ∀ (fuel : Nat) (listed : Array Bool) (a : Act) (w : World), listed.size = ops.size → listed.toList.countP (!·) ≤ fuel → I (fun j => listed.getD j false) a w → wpAny P .any ops Q fuel listed a w := by
  have hall : ∀ (listed : Array Bool), listed.size = ops.size → Region.ready .any ops listed = [] → ∀ i, i < ops.size → listed.getD i false = true := by
    intro listed hs hr i
    induction i using Nat.strongRecOn with
    | _ i ih =>
      intro hi
      have hg : listed.getD i false = listed.getD i true := by simp [Array.getD, hs, hi]
      cases hc : listed.getD i true with
      | true => rw [hg, hc]
      | false =>
        have : i ∈ Region.ready .any ops listed := mem_ready.2 ⟨_, Array.getElem?_eq_getElem hi, hc, fun e he hb => ih e.on (hdep i _ (Array.getElem?_eq_getElem hi) e he hb) (Nat.lt_trans (hdep i _ (Array.getElem?_eq_getElem hi) e he hb) hi)⟩
        rw [hr] at this
        cases this
  intro fuel
  induction fuel with
  | zero =>
    intro listed a w hs hc hI
    have hz : Region.ready .any ops listed = [] := by
      apply List.eq_nil_iff_forall_not_mem.2
      intro i hi
      obtain ⟨o, ho, hf, _⟩ := mem_ready.1 hi
      have hlt : i < listed.size := by rw [hs]; exact (Array.getElem?_eq_some_iff.1 ho).1
      have := count_zero listed.toList (by omega) i (by simpa using hlt)
      simp [Array.getD, hlt] at hf this
      rw [hf] at this
      cases this
    exact ⟨hz, hdone _ _ _ hI (hall listed hs hz)⟩
  | succ fuel ih =>
    intro listed a w hs hc hI
    refine ⟨fun hz => hdone _ _ _ hI (hall listed hs hz), fun i hi => ?_⟩
    obtain ⟨o, ho, hf, hd⟩ := mem_ready.1 hi
    have hlt : i < listed.size := by rw [hs]; exact (Array.getElem?_eq_some_iff.1 ho).1
    have hgi : listed.toList[i]? = some false := by
      simp [Array.getD, hlt] at hf
      simp [hlt, hf]
    refine wpOp_mono (fun a' w' hI' => ih _ a' w' (by simpa using hs) ?_ ?_) (hop _ a w i o hI ho (by simp [Array.getD, hlt] at hf ⊢; exact hf) hd)
    · have := count_set listed.toList i hgi
      rw [Array.toList_setIfInBounds]
      omega
    · refine cast (congrArg (fun L => I L a' w') (funext fun j => ?_)) hI'
      by_cases hj : j = i
      · subst hj
        simp [Array.getD, hlt]
      · rw [if_neg hj]
        have e : (listed.setIfInBounds i true)[j]? = listed[j]? := Array.getElem?_setIfInBounds_ne (fun h => hj h.symm)
        rw [Array.getD_eq_getD_getElem?, Array.getD_eq_getD_getElem?, e]

/-- Each operation waits for earlier ones alone. -/
def depsB (ops : Array Oper) : Bool := (List.range ops.size).all fun i => match ops[i]? with | some o => o.after.all fun e => !Region.binds .any e || decide (e.on < i) | none => true
theorem depsB_spec (h : depsB ops = true) (i : Nat) (o : Oper) (ho : ops[i]? = some o) (e : Edge) (he : e ∈ o.after) (hb : Region.binds .any e = true) : e.on < i := by
  have h1 := List.all_eq_true.1 h i (List.mem_range.2 (Array.getElem?_eq_some_iff.1 ho).1)
  rw [ho] at h1
  have h2 := (Array.all_eq_true'.1 h1) e he
  rw [hb] at h2
  simpa using h2
/-- What is so at the beginning, and goes on with each operation that may come up, is so at the end. -/
theorem wp_region_inv {id : Nat} {a : Act} {w : World} (hm : P.follows .mixedOrders = true) (I : (Nat → Bool) → Act → World → Prop) (hdep : depsB ops = true)
    (h0 : I (fun _ => false) a w.drew)
    (hop : ∀ L a w i o, I L a w → ops[i]? = some o → L i = false → (∀ e ∈ o.after, Region.binds .any e = true → L e.on = true) → wpOp P ops Q i (I (fun j => if j = i then true else L j)) a w)
    (hdone : ∀ L a w, I L a w → (∀ i, i < ops.size → L i = true) → Q .normal a w) : (Code.region id ops true).wp P Q a w := by
  refine wp_region_any hm (wpAny_inv I (depsB_spec hdep) hop hdone _ _ _ _ (by simp) ?_ ?_)
  · rw [Array.toList_replicate]
    exact Nat.le_trans (List.countP_le_length) (by simp)
  · refine cast (congrArg (fun L => I L a w.drew) (funext fun j => ?_)) h0
    simp [Array.getD]
variable {F : Fence} {n : Nat}
theorem wpAnyIn_inv (I : (Nat → Bool) → Act → World → Prop) (hdep : ∀ (i : Nat) (o : Oper), ops[i]? = some o → ∀ e ∈ o.after, Region.binds .any e = true → e.on < i)
    (hop : ∀ L a w i o, I L a w → ops[i]? = some o → L i = false → (∀ e ∈ o.after, Region.binds .any e = true → L e.on = true) → wpOpIn F n P ops Q i (I (fun j => if j = i then true else L j)) a w)
    (hdone : ∀ L a w, I L a w → (∀ i, i < ops.size → L i = true) → Q .normal a w) :
    ∀ (fuel : Nat) (listed : Array Bool) (a : Act) (w : World), listed.size = ops.size → listed.toList.countP (!·) ≤ fuel → I (fun j => listed.getD j false) a w → wpAnyIn F n P .any ops Q fuel listed a w := by
  have hall : ∀ (listed : Array Bool), listed.size = ops.size → Region.ready .any ops listed = [] → ∀ i, i < ops.size → listed.getD i false = true := by
    intro listed hs hr i
    induction i using Nat.strongRecOn with
    | _ i ih =>
      intro hi
      have hg : listed.getD i false = listed.getD i true := by simp [Array.getD, hs, hi]
      cases hc : listed.getD i true with
      | true => rw [hg, hc]
      | false =>
        have : i ∈ Region.ready .any ops listed := mem_ready.2 ⟨_, Array.getElem?_eq_getElem hi, hc, fun e he hb => ih e.on (hdep i _ (Array.getElem?_eq_getElem hi) e he hb) (Nat.lt_trans (hdep i _ (Array.getElem?_eq_getElem hi) e he hb) hi)⟩
        rw [hr] at this
        cases this
  intro fuel
  induction fuel with
  | zero =>
    intro listed a w hs hc hI
    have hz : Region.ready .any ops listed = [] := by
      apply List.eq_nil_iff_forall_not_mem.2
      intro i hi
      obtain ⟨o, ho, hf, _⟩ := mem_ready.1 hi
      have hlt : i < listed.size := by rw [hs]; exact (Array.getElem?_eq_some_iff.1 ho).1
      have := count_zero listed.toList (by omega) i (by simpa using hlt)
      simp [Array.getD, hlt] at hf this
      rw [hf] at this
      cases this
    exact ⟨hz, hdone _ _ _ hI (hall listed hs hz)⟩
  | succ fuel ih =>
    intro listed a w hs hc hI
    refine ⟨fun hz => hdone _ _ _ hI (hall listed hs hz), fun i hi => ?_⟩
    obtain ⟨o, ho, hf, hd⟩ := mem_ready.1 hi
    have hlt : i < listed.size := by rw [hs]; exact (Array.getElem?_eq_some_iff.1 ho).1
    have hgi : listed.toList[i]? = some false := by
      simp [Array.getD, hlt] at hf
      simp [hlt, hf]
    refine wpOpIn_mono (fun a' w' hI' => ih _ a' w' (by simpa using hs) ?_ ?_) (hop _ a w i o hI ho (by simp [Array.getD, hlt] at hf ⊢; exact hf) hd)
    · have := count_set listed.toList i hgi
      rw [Array.toList_setIfInBounds]
      omega
    · refine cast (congrArg (fun L => I L a' w') (funext fun j => ?_)) hI'
      by_cases hj : j = i
      · subst hj
        simp [Array.getD, hlt]
      · rw [if_neg hj]
        have e : (listed.setIfInBounds i true)[j]? = listed[j]? := Array.getElem?_setIfInBounds_ne (fun h => hj h.symm)
        rw [Array.getD_eq_getD_getElem?, Array.getD_eq_getD_getElem?, e]

/-- What is so at the beginning, and goes on with each operation that may come up, is so at the end. -/
theorem wpIn_region_inv {id : Nat} {a : Act} {w : World} (hm : P.follows .mixedOrders = true) (I : (Nat → Bool) → Act → World → Prop) (hdep : depsB ops = true)
    (h0 : I (fun _ => false) a w.drew)
    (hop : ∀ L a w i o, I L a w → ops[i]? = some o → L i = false → (∀ e ∈ o.after, Region.binds .any e = true → L e.on = true) → wpOpIn F n P ops Q i (I (fun j => if j = i then true else L j)) a w)
    (hdone : ∀ L a w, I L a w → (∀ i, i < ops.size → L i = true) → Q .normal a w) : (Code.region id ops true).wpIn F n P Q a w := by
  refine wpIn_region_any hm (wpAnyIn_inv I (depsB_spec hdep) hop hdone _ _ _ _ (by simp) ?_ ?_)
  · rw [Array.toList_replicate]
    exact Nat.le_trans (List.countP_le_length) (by simp)
  · refine cast (congrArg (fun L => I L a w.drew) (funext fun j => ?_)) h0
    simp [Array.getD]
end
end Go.Proofs.Ytehmfkcihieecaa.Te
