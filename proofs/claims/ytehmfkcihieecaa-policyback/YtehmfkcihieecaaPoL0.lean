/- What a store does, said of its answers: plain. (Laid with NS=1; written by wip/tools/gen/pot.py.) -/
import Derived.Test.YtehmfkcihieecaaPoA3
namespace Go.Proofs.Ytehmfkcihieecaa.Po
open Te.Tt

theorem chg_err {σ : Sto} {a : Nm} {f : Pr → Pr × Int} (h : (chg σ a f).2 ≠ 0) : (chg σ a f).1 = σ := by
  unfold chg at h ⊢
  split at h
  · rfl
  · split at h
    · simp at h
    · rename_i h1; simp [h1]
theorem chg_ok {σ : Sto} {a : Nm} {f : Pr → Pr × Int} (h : (chg σ a f).2 = 0) : ∃ p, σ a = some p ∧ (f p).2 = 0 ∧ (chg σ a f).1 = up σ a (f p).1 := by
  cases hp : σ a with
  | none => simp [chg, hp] at h
  | some p =>
    refine ⟨p, rfl, ?_⟩
    have e : chg σ a f = if (f p).2 = 0 then (up σ a (f p).1, 0) else (σ, (f p).2) := by unfold chg; rw [hp]
    rw [e] at h ⊢
    by_cases h1 : (f p).2 = 0
    · rw [if_pos h1]; exact ⟨h1, rfl⟩
    · rw [if_neg h1] at h; exact absurd h h1
theorem rel_err {σ : Sto} {a b : Nm} {f : Pr → Pr × Int} (h : (rel σ a b f).2 ≠ 0) : (rel σ a b f).1 = σ := by
  by_cases hb : (σ b).isSome = true
  · have e : rel σ a b f = chg σ a f := by unfold rel; rw [if_pos hb]
    rw [e] at h ⊢; exact chg_err h
  · have e : rel σ a b f = (σ, 40) := by unfold rel; rw [if_neg hb]
    rw [e]
theorem rel_ok {σ : Sto} {a b : Nm} {f : Pr → Pr × Int} (h : (rel σ a b f).2 = 0) : ∃ p, σ a = some p ∧ (σ b).isSome = true ∧ (f p).2 = 0 ∧ (rel σ a b f).1 = up σ a (f p).1 := by
  by_cases hb : (σ b).isSome = true
  · have e : rel σ a b f = chg σ a f := by unfold rel; rw [if_pos hb]
    rw [e] at h ⊢
    obtain ⟨p, h1, h2, h3⟩ := chg_ok h
    exact ⟨p, h1, hb, h2, h3⟩
  · have e : rel σ a b f = (σ, 40) := by unfold rel; rw [if_neg hb]
    rw [e] at h; simp at h
theorem ok_len {σ : Sto} (h : Oks σ) (x : Nm) : (gt σ x).al.Nodup ∧ (gt σ x).ac.Nodup := by
  cases e : σ x with
  | none => rw [gt_none e]; simp [zp]
  | some p => rw [gt_some e]; exact ⟨(h x p e).al, (h x p e).ac⟩
/-- What is allowed. -/
theorem sets_ok {σ : Sto} {a b : Nm} {on : Bool} (ok : Oks σ) (h : (rel σ a b (allF b on)).2 = 0) :
    decide (b ∈ (gt (rel σ a b (allF b on)).1 a).al) = on ∧ (∀ x, (gt (rel σ a b (allF b on)).1 x).ac = (gt σ x).ac) ∧ (∀ c, { gt (rel σ a b (allF b on)).1 c with al := [] } = { gt σ c with al := [] }) ∧
    ∀ c d, ¬ (c = a ∧ d = b) → decide (d ∈ (gt (rel σ a b (allF b on)).1 c).al) = decide (d ∈ (gt σ c).al) := by
  obtain ⟨p, h1, -, h2, h3⟩ := rel_ok h
  rw [h3]
  have hp := gt_some h1
  have hm := fun x => put_mem (b := b) (on := on) (ok a p h1).al h2 x
  refine ⟨?_, fun x => ?_, fun x => ?_, fun c d hcd => ?_⟩
  · rw [gt_same]
    have := hm b
    rw [if_pos rfl] at this
    cases on
    · exact decide_eq_false (fun e => by have := this.1 e; cases this)
    · exact decide_eq_true (this.2 rfl)
  · by_cases e : x = a
    · subst e; rw [gt_same, hp]; rfl
    · rw [gt_other e]
  · by_cases e : x = a
    · subst e; rw [gt_same, hp]; rfl
    · rw [gt_other e]
  · by_cases e : c = a
    · subst e
      rw [gt_same, hp]
      have := hm d
      rw [if_neg (fun e => hcd ⟨rfl, e⟩)] at this
      exact decide_eq_decide.2 this
    · rw [gt_other e]
/-- What may act. -/
theorem acts_ok {σ : Sto} {a b : Nm} {on : Bool} (ok : Oks σ) (h : (rel σ a b (actF b on)).2 = 0) :
    decide (b ∈ (gt (rel σ a b (actF b on)).1 a).ac) = on ∧ (∀ x, (gt (rel σ a b (actF b on)).1 x).al = (gt σ x).al) := by
  obtain ⟨p, h1, -, h2, h3⟩ := rel_ok h
  rw [h3]
  have hp := gt_some h1
  have hm := put_mem (b := b) (on := on) (ok a p h1).ac h2 b
  rw [if_pos rfl] at hm
  refine ⟨?_, fun x => ?_⟩
  · rw [gt_same]
    cases on
    · exact decide_eq_false (fun e => by have := hm.1 e; cases this)
    · exact decide_eq_true (hm.2 rfl)
  · by_cases e : x = a
    · subst e; rw [gt_same, hp]; rfl
    · rw [gt_other e]
end Go.Proofs.Ytehmfkcihieecaa.Po
