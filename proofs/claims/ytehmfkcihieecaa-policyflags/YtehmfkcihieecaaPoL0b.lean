/- Keys and flags, said of the store: plain. (Laid with NS=1; written by wip/tools/gen/pot.py.) -/
import Derived.Test.YtehmfkcihieecaaPoL0
namespace Go.Proofs.Ytehmfkcihieecaa.Po
open Te.Tt

theorem ky_some {σ : Sto} {a : Nm} {p : Pr} (h : σ a = some p) : ky σ a = ⟨2, a, p.ver⟩ := by unfold ky; rw [h]
theorem rekey_ok {σ : Sto} {a : Nm} (ok : Oks σ) (h : (chg σ a rekF).2 = 0) : ∃ v : Int, 1 ≤ v ∧ v < 1000 ∧ ky σ a = ⟨2, a, v⟩ ∧ ky (chg σ a rekF).1 a = ⟨2, a, v + 1⟩ ∧ (σ a).isSome = true ∧ (∀ x, x ≠ a → ky (chg σ a rekF).1 x = ky σ x) ∧ ∀ x, ((chg σ a rekF).1 x).isSome = (σ x).isSome := by
  obtain ⟨p, hp, h1, h2⟩ := chg_ok h
  rw [h2]
  have hv := (ok a p hp).v1
  by_cases h3 : 1000 ≤ p.ver
  · unfold rekF at h1; rw [if_pos h3] at h1; simp at h1
  · have e : (rekF p).1 = { p with ver := p.ver + 1 } := by unfold rekF; rw [if_neg h3]
    rw [e]
    refine ⟨p.ver, hv, by omega, ky_some hp, ky_some (up_same _ _ _), by rw [hp]; rfl, fun x hx => ?_, fun x => ?_⟩
    · unfold ky; rw [up_other hx]
    · by_cases hx : x = a
      · subst hx; rw [up_same, hp]; rfl
      · rw [up_other hx]
/-- Flags that are set. -/
theorem flag_ok {σ : Sto} {a : Nm} {on : Bool} {p : Pr} (hp : σ a = some p) : (chg σ a (truF on)).2 = 0 ∧ (chg (chg σ a (truF on)).1 a (senF (!on))).2 = 0 ∧
    gt (chg (chg σ a (truF on)).1 a (senF (!on))).1 a = { p with tr := on, se := !on } ∧ ∀ x, x ≠ a → gt (chg (chg σ a (truF on)).1 a (senF (!on))).1 x = gt σ x := by
  have e1 : chg σ a (truF on) = (up σ a { p with tr := on }, 0) := by unfold chg; rw [hp]; rfl
  rw [e1]
  have e2 : chg (up σ a { p with tr := on }) a (senF (!on)) = (up (up σ a { p with tr := on }) a { p with tr := on, se := !on }, 0) := by unfold chg; rw [up_same]; rfl
  show (0 : Int) = 0 ∧ _
  rw [e2]
  refine ⟨rfl, rfl, gt_same _ _ _, fun x hx => ?_⟩
  show gt (up (up σ a _) a _) x = _
  rw [gt_other hx, gt_other hx]
theorem flag_no {σ : Sto} {a : Nm} {f : Pr → Pr × Int} (hp : σ a = none) : chg σ a f = (σ, 40) := by unfold chg; rw [hp]
end Go.Proofs.Ytehmfkcihieecaa.Po
