/- Plain mathematics of depth. -/
import Derived.Test.YtfhcfaflggiacaaDoorTmPure
namespace Go.Proofs.YtfhcfaflggiacaaDoor
namespace Tt

mutual
/-- How deep a term is nested. -/
def dp : Tm → Nat
  | .mk _ _ _ l => dps l
def dps : List Tm → Nat
  | [] => 0
  | x :: r => max (1 + dp x) (dps r)
end
mutual
/-- Has every part the right shape? -/
def sh : Tm → Bool
  | .mk k s n l => !mis (.mk k s n l) && shs l
def shs : List Tm → Bool
  | [] => true
  | x :: r => sh x && shs r
end
theorem shs_all : ∀ l, shs l = l.all sh
  | [] => by simp [shs]
  | x :: r => by simp [shs, shs_all r]
theorem dps_le : ∀ (l : List Tm) (m : Nat), dps l ≤ m ↔ ∀ x ∈ l, 1 + dp x ≤ m
  | [], m => by simp [dps]
  | x :: r, m => by rw [dps, Nat.max_le, dps_le r m]; simp
theorem dps_app : ∀ l m : List Tm, dps (l ++ m) = max (dps l) (dps m)
  | [], m => by simp [dps]
  | x :: r, m => by rw [List.cons_append, dps, dps, dps_app r m, Nat.max_assoc]
theorem dps_take_succ (l : List Tm) (i : Nat) (h : i < l.length) : dps (l.take (i + 1)) = max (dps (l.take i)) (1 + dp l[i]) := by
  rw [List.take_succ_eq_append_getElem h, dps_app]
  simp [dps]
theorem dp_sz : ∀ x, dp x < sz x := Tm.ind (by
  intro k s n l ih
  rw [dp, sz]
  have : dps l ≤ szs l := by
    rw [dps_le]
    intro x hx
    have := ih x hx
    have := szs_mem l x hx
    omega
  omega)
theorem vld_dp : ∀ (x : Tm) (d : Nat), vld d x = (decide (d + dp x ≤ 16) && sh x) := Tm.ind (by
  intro k s n l ih d
  rw [vld_mk, dp, sh, shs_all, Bool.eq_iff_iff]
  simp only [Bool.and_eq_true, decide_eq_true_eq, List.all_eq_true]
  constructor
  · rintro ⟨⟨h1, h2⟩, h3⟩
    have h4 : ∀ x ∈ l, d + 1 + dp x ≤ 16 ∧ sh x = true := by
      intro x hx
      have := h3 x hx
      rw [ih x hx] at this
      simpa using this
    refine ⟨?_, h2, fun x hx => (h4 x hx).2⟩
    have h5 := (dps_le l (16 - d)).2 fun x hx => by have := (h4 x hx).1; omega
    omega
  · rintro ⟨h1, h2, h3⟩
    have h5 := (dps_le l (16 - d)).1 (by omega)
    refine ⟨⟨by omega, h2⟩, fun x hx => ?_⟩
    rw [ih x hx]
    have := h5 x hx
    simp only [Bool.and_eq_true, decide_eq_true_eq]
    exact ⟨by omega, h3 x hx⟩)

/-- A term in so many lists. -/
def wrap : Nat → Tm → Tm
  | 0, x => x
  | i + 1, x => .mk 3 [] 0 [wrap i x]
theorem wrap_dp : ∀ (i : Nat) (x : Tm), dp (wrap i x) = dp x + i
  | 0, x => rfl
  | i + 1, x => by rw [wrap, dp, dps, wrap_dp i x]; simp [dps]; omega
theorem wrap_sz : ∀ (i : Nat) (x : Tm), sz (wrap i x) = sz x + i
  | 0, x => rfl
  | i + 1, x => by rw [wrap, sz, szs, wrap_sz i x]; simp [szs]; omega
theorem wrap_sh : ∀ (i : Nat) (x : Tm), sh (wrap i x) = sh x
  | 0, x => rfl
  | i + 1, x => by rw [wrap, sh, shs, wrap_sh i x]; simp [shs, mis]
theorem wrap_vld (i : Nat) (x : Tm) : vld 0 (wrap i x) = (vld 0 x && decide (dp x + i ≤ 16)) := by
  rw [vld_dp, vld_dp, wrap_dp, wrap_sh, Bool.eq_iff_iff]
  simp only [Bool.and_eq_true, decide_eq_true_eq, Nat.zero_add]
  constructor
  · rintro ⟨h1, h2⟩
    exact ⟨⟨by omega, h2⟩, h1⟩
  · rintro ⟨⟨h1, h2⟩, h3⟩
    exact ⟨h3, h2⟩
theorem szs_rep (m : Nat) (x : Tm) : szs (List.replicate m x) = m * sz x := by
  induction m with
  | zero => simp [szs]
  | succ m ih => rw [List.replicate_succ, szs, ih, Nat.succ_mul]; omega
theorem rep_vld (m : Nat) (x : Tm) (h0 : 0 < m) (h : m ≤ 64) : vld 0 (.mk 3 [] 0 (List.replicate m x)) = (vld 0 x && decide (dp x < 16)) := by
  rw [vld_mk, vld_dp]
  have hm : mis (.mk 3 [] 0 (List.replicate m x)) = false := by simp [mis]; omega
  rw [hm, Bool.eq_iff_iff]
  simp only [Bool.and_eq_true, decide_eq_true_eq, List.all_eq_true, List.mem_replicate, Nat.zero_le, Bool.not_false, true_and, Nat.zero_add]
  constructor
  · intro h1
    have := h1 x ⟨by omega, rfl⟩
    rw [vld_dp] at this
    simp only [Bool.and_eq_true, decide_eq_true_eq] at this
    exact ⟨⟨by omega, this.2⟩, by omega⟩
  · rintro ⟨⟨h1, h2⟩, h3⟩ y ⟨_, rfl⟩
    rw [vld_dp]
    simp only [Bool.and_eq_true, decide_eq_true_eq]
    exact ⟨by omega, h2⟩
theorem rep65_vld (x : Tm) : vld 0 (.mk 3 [] 0 (List.replicate 65 x)) = false := by
  rw [vld_mk]
  have hm : mis (.mk 3 [] 0 (List.replicate 65 x)) = true := by simp [mis]
  rw [hm]; simp
end Tt
end Go.Proofs.YtfhcfaflggiacaaDoor
