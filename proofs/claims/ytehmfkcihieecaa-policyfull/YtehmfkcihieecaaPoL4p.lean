/- A hundred principals: plain. (Laid with NS=1; written by wip/tools/gen/pot.py.) -/
import Derived.Test.YtehmfkcihieecaaPoV4
import Derived.Test.YtehmfkcihieecaaPoA3
import Derived.Sort.Walk0
namespace Go.Proofs.Ytehmfkcihieecaa.Po
open Te.Tt

def key (D i : Nat) : Nat := (i * 37 + D) % 101
theorem key_le (D i : Nat) : key D i ≤ 100 := by unfold key; omega
theorem key_inj {D i j : Nat} (hi : i < 101) (hj : j < 101) (h : key D i = key D j) : i = j := by unfold key at h; omega
theorem key_shift (D i : Nat) : key D (i + 101) = key D i := by unfold key; omega
def pn (D i : Nat) : Pr := ⟨nmk (key D i), 1, false, false, [], [], [], 0⟩
def Inv (σ : Sto) (D k : Nat) : Prop := ∀ a, (σ a).isSome = true ↔ ∃ j, j < k ∧ a = nmk (key D j)
theorem inv_start (D : Nat) : Inv (fun _ => none) D 0 := fun a => by simp
theorem vp_pn (D i : Nat) : vp (pn D i) = true := by
  have h := (nmk_ok (key_le D i)).1
  simp [vp, pn, nms, h]
theorem inv_none {σ : Sto} {D k i : Nat} (h : Inv σ D k) (hk : k ≤ i) (hi : i < 101) : σ (nmk (key D i)) = none := by
  cases e : σ (nmk (key D i)) with
  | none => rfl
  | some q =>
    obtain ⟨j, hj, he⟩ := (h _).1 (by rw [e]; rfl)
    have := key_inj hi (by omega) (nmk_inj he)
    omega
theorem full_a {σ : Sto} {D i : Nat} (h : Inv σ D i) (hi : i < 100) : addE σ i (pn D i) = 0 ∧ add σ i (pn D i) = (up σ (nmk (key D i)) (pn D i), i + 1) ∧ Inv (up σ (nmk (key D i)) (pn D i)) D (i + 1) ∧ (up σ (nmk (key D i)) (pn D i) (nmk (key D i))).isSome = true := by
  have hn := inv_none h (Nat.le_refl _) (show i < 101 by omega)
  have hE : addE σ i (pn D i) = 0 := by
    unfold addE
    rw [if_neg (by rw [vp_pn]; decide), show σ (pn D i).nm = none from hn, if_neg (by simp), if_neg (by omega)]
  refine ⟨hE, by unfold add; rw [if_pos hE]; rfl, fun a => ?_, by rw [up_same]; rfl⟩
  by_cases e : a = nmk (key D i)
  · subst e
    rw [up_same]
    simp only [Option.isSome_some, true_iff]
    exact ⟨i, by omega, rfl⟩
  · rw [up_other e, h a]
    constructor
    · rintro ⟨j, hj, he⟩; exact ⟨j, by omega, he⟩
    · rintro ⟨j, hj, he⟩
      refine ⟨j, ?_, he⟩
      rcases Nat.lt_or_ge j i with h1 | h1
      · exact h1
      · obtain rfl : j = i := by omega
        exact absurd he e
theorem full_b {σ : Sto} {D i : Nat} (h : Inv σ D 100) (h1 : 100 ≤ i) (h2 : i < 110) : add σ 100 (pn D i) = (σ, 100) ∧ ((addE σ 100 (pn D i) = 53 ∧ (σ (nmk (key D i))).isSome = false) ∨ (addE σ 100 (pn D i) = 41 ∧ (σ (nmk (key D i))).isSome = true)) := by
  have key : (addE σ 100 (pn D i) = 53 ∧ (σ (nmk (key D i))).isSome = false) ∨ (addE σ 100 (pn D i) = 41 ∧ (σ (nmk (key D i))).isSome = true) := by
    by_cases e : i = 100
    · subst e
      have hn := inv_none h (Nat.le_refl _) (by omega)
      refine .inl ⟨?_, by rw [hn]; rfl⟩
      unfold addE
      rw [if_neg (by rw [vp_pn]; decide), show σ (pn D 100).nm = none from hn, if_neg (by simp), if_pos (Nat.le_refl _)]
    · obtain ⟨j, rfl⟩ : ∃ j, i = j + 101 := ⟨i - 101, by omega⟩
      have hs : (σ (nmk (Po.key D (j + 101)))).isSome = true := (h _).2 ⟨j, by omega, by rw [key_shift]⟩
      refine .inr ⟨?_, hs⟩
      unfold addE
      rw [if_neg (by rw [vp_pn]; decide), if_pos (show (σ (pn D (j + 101)).nm).isSome = true from hs)]
  refine ⟨?_, key⟩
  have hne : addE σ 100 (pn D i) ≠ 0 := by
    rcases key with ⟨h3, _⟩ | ⟨h3, _⟩ <;> rw [h3] <;> decide
  unfold add
  rw [if_neg hne]
/-- Sorted, each once: each is below the next one. -/
theorem sorted_lt {ss : List Nm} (hn : ss.Nodup) (i : Nat) (h : i + 1 < (ss.mergeSort (fun x y => decide (x ≤ y))).length) :
    Op.bytesLess (ss.mergeSort (fun x y => decide (x ≤ y)))[i] (ss.mergeSort (fun x y => decide (x ≤ y)))[i + 1] = true := by
  have hp := List.pairwise_mergeSort (le := fun (x y : Nm) => decide (x ≤ y)) (fun a b c h1 h2 => by simp only [decide_eq_true_eq] at *; exact List.le_trans h1 h2) (fun a b => by simp only [Bool.or_eq_true, decide_eq_true_eq]; exact List.le_total a b) ss
  have hd : (ss.mergeSort (fun x y => decide (x ≤ y))).Nodup := (List.mergeSort_perm ss _).nodup_iff.2 hn
  have h1 := (List.pairwise_iff_getElem.1 hp) i (i + 1) (by omega) h (by omega)
  have h2 := (List.pairwise_iff_getElem.1 hd) i (i + 1) (by omega) h (by omega)
  simp only [decide_eq_true_eq] at h1
  rw [bytesLess_eq, decide_eq_true_eq]
  rcases Classical.em ((ss.mergeSort (fun x y => decide (x ≤ y)))[i] < (ss.mergeSort (fun x y => decide (x ≤ y)))[i + 1]) with h3 | h3
  · exact h3
  · exact absurd (List.le_antisymm h1 (List.not_lt.1 h3)) h2
end Go.Proofs.Ytehmfkcihieecaa.Po
