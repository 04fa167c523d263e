/- Allowed and taken back, said of the store: plain. (Laid with NS=1; written by wip/tools/gen/pot.py.) -/
import Derived.Test.YtehmfkcihieecaaPoL0
namespace Go.Proofs.Ytehmfkcihieecaa.Po
open Te.Tt

theorem put_on {l : List Nm} {b : Nm} (hb : b ∉ l) (h : (put l b true).2 = 0) : (put l b true).1 = l ++ [b] := by
  unfold put at h ⊢
  rw [if_neg (by simp [hb]), if_neg hb] at h ⊢
  by_cases h5 : 50 ≤ l.length
  · rw [if_pos h5] at h; simp at h
  · rw [if_neg h5]
theorem put_off {l : List Nm} {b : Nm} (hb : b ∉ l) : put (l ++ [b]) b false = (l, 0) := by
  unfold put
  rw [if_neg (by simp), if_pos (by simp)]
  rw [List.erase_append_right _ hb]
  simp
theorem put_none {l : List Nm} {b : Nm} (hb : b ∉ l) : put l b false = (l, 0) := by
  unfold put
  rw [if_pos (by simp [hb])]
theorem up_up (σ : Sto) (a : Nm) (p q : Pr) : up (up σ a p) a q = up σ a q := by
  funext x
  by_cases e : x = a
  · subst e; rw [up_same, up_same]
  · rw [up_other e, up_other e, up_other e]
theorem up_id {σ : Sto} {a : Nm} {p : Pr} (h : σ a = some p) : up σ a p = σ := by
  funext x
  by_cases e : x = a
  · subst e; rw [up_same, h]
  · rw [up_other e]
theorem up_comm {σ : Sto} {a b : Nm} {p q : Pr} (h : a ≠ b) : up (up σ a p) b q = up (up σ b q) a p := by
  funext x
  by_cases e : x = a
  · subst e; rw [up_same, up_other h, up_same]
  · by_cases e' : x = b
    · subst e'; rw [up_same, up_other (fun h => e h), up_same]
    · rw [up_other e', up_other e, up_other e, up_other e']
theorem rel_all_on {σ : Sto} {a b : Nm} {p : Pr} (ha : σ a = some p) (hb : (σ b).isSome = true) (hn : b ∉ p.al) : ∃ l e, rel σ a b (allF b true) = (up σ a { p with al := l }, e) ∧ ((e = 0 ∧ l = p.al ++ [b]) ∨ (e ≠ 0 ∧ l = p.al)) := by
  have e1 : rel σ a b (allF b true) = if (allF b true p).2 = 0 then (up σ a (allF b true p).1, 0) else (σ, (allF b true p).2) := by unfold rel; rw [if_pos hb]; unfold chg; rw [ha]
  rw [e1]
  by_cases h : (put p.al b true).2 = 0
  · refine ⟨p.al ++ [b], 0, ?_, .inl ⟨rfl, rfl⟩⟩
    rw [if_pos (show (allF b true p).2 = 0 from h)]
    show (up σ a { p with al := (put p.al b true).1 }, (0 : Int)) = _
    rw [put_on hn h]
  · refine ⟨p.al, (put p.al b true).2, ?_, .inr ⟨h, rfl⟩⟩
    rw [if_neg (show ¬ (allF b true p).2 = 0 from h)]
    show (σ, (put p.al b true).2) = (up σ a p, _)
    rw [up_id ha]
theorem rel_all_off {σ : Sto} {a b : Nm} {p : Pr} {l : List Nm} (ha : σ a = some p) (hb : (σ b).isSome = true) (hn : b ∉ l) (hl : p.al = l ++ [b] ∨ p.al = l) : rel σ a b (allF b false) = (up σ a { p with al := l }, 0) := by
  have hp : put p.al b false = (l, 0) := by
    rcases hl with h | h
    · rw [h]; exact put_off hn
    · rw [h]; exact put_none hn
  have e1 : rel σ a b (allF b false) = if (allF b false p).2 = 0 then (up σ a (allF b false p).1, 0) else (σ, (allF b false p).2) := by unfold rel; rw [if_pos hb]; unfold chg; rw [ha]
  rw [e1, show allF b false p = ({ p with al := l }, 0) from by unfold allF; rw [hp]]
  rfl
theorem rel_act_on {σ : Sto} {a b : Nm} {p : Pr} (ha : σ a = some p) (hb : (σ b).isSome = true) (hn : b ∉ p.ac) : ∃ l e, rel σ a b (actF b true) = (up σ a { p with ac := l }, e) ∧ ((e = 0 ∧ l = p.ac ++ [b]) ∨ (e ≠ 0 ∧ l = p.ac)) := by
  have e1 : rel σ a b (actF b true) = if (actF b true p).2 = 0 then (up σ a (actF b true p).1, 0) else (σ, (actF b true p).2) := by unfold rel; rw [if_pos hb]; unfold chg; rw [ha]
  rw [e1]
  by_cases h : (put p.ac b true).2 = 0
  · refine ⟨p.ac ++ [b], 0, ?_, .inl ⟨rfl, rfl⟩⟩
    rw [if_pos (show (actF b true p).2 = 0 from h)]
    show (up σ a { p with ac := (put p.ac b true).1 }, (0 : Int)) = _
    rw [put_on hn h]
  · refine ⟨p.ac, (put p.ac b true).2, ?_, .inr ⟨h, rfl⟩⟩
    rw [if_neg (show ¬ (actF b true p).2 = 0 from h)]
    show (σ, (put p.ac b true).2) = (up σ a p, _)
    rw [up_id ha]
theorem rel_act_off {σ : Sto} {a b : Nm} {p : Pr} {l : List Nm} (ha : σ a = some p) (hb : (σ b).isSome = true) (hn : b ∉ l) (hl : p.ac = l ++ [b] ∨ p.ac = l) : rel σ a b (actF b false) = (up σ a { p with ac := l }, 0) := by
  have hp : put p.ac b false = (l, 0) := by
    rcases hl with h | h
    · rw [h]; exact put_off hn
    · rw [h]; exact put_none hn
  have e1 : rel σ a b (actF b false) = if (actF b false p).2 = 0 then (up σ a (actF b false p).1, 0) else (σ, (actF b false p).2) := by unfold rel; rw [if_pos hb]; unfold chg; rw [ha]
  rw [e1, show actF b false p = ({ p with ac := l }, 0) from by unfold actF; rw [hp]]
  rfl
theorem rel_no {σ : Sto} {a b : Nm} {f : Pr → Pr × Int} (h : σ a = none ∨ σ b = none) : rel σ a b f = (σ, 40) := by
  unfold rel
  cases hb : σ b with
  | none => rfl
  | some q =>
    rcases h with h | h
    · show chg σ a f = _
      unfold chg
      rw [h]
    · rw [hb] at h; cases h
/-- b was not in a's Allowed, nor a in b's Acts: allowed both ways, and taken back. -/
theorem back_ok {σ : Sto} {a b : Nm} (ha : b ∉ (gt σ a).al) (hb : a ∉ (gt σ b).ac) :
    decide (b ∈ (gt (rel (rel σ a b (allF b true)).1 b a (actF a true)).1 a).al) = decide ((rel σ a b (allF b true)).2 = 0) ∧
    decide (a ∈ (gt (rel (rel σ a b (allF b true)).1 b a (actF a true)).1 b).ac) = decide ((rel (rel σ a b (allF b true)).1 b a (actF a true)).2 = 0) ∧
    ((rel σ a b (allF b true)).2 = 0 → (rel (rel (rel σ a b (allF b true)).1 b a (actF a true)).1 a b (allF b false)).2 = 0) ∧
    ((rel (rel σ a b (allF b true)).1 b a (actF a true)).2 = 0 → (rel (rel (rel (rel σ a b (allF b true)).1 b a (actF a true)).1 a b (allF b false)).1 b a (actF a false)).2 = 0) ∧
    (rel (rel (rel (rel σ a b (allF b true)).1 b a (actF a true)).1 a b (allF b false)).1 b a (actF a false)).1 = σ := by
  by_cases hno : σ a = none ∨ σ b = none
  · have hno' : σ b = none ∨ σ a = none := hno.symm
    rw [rel_no hno]
    simp only
    rw [rel_no hno']
    simp only
    rw [rel_no hno]
    simp only
    rw [rel_no hno']
    exact ⟨by simp [ha], by simp [hb], fun h => absurd h (by decide), fun h => absurd h (by decide), rfl⟩
  · obtain ⟨p, hp⟩ : ∃ p, σ a = some p := by
      cases h : σ a with
      | none => exact absurd (.inl h) hno
      | some p => exact ⟨p, rfl⟩
    obtain ⟨q, hq⟩ : ∃ q, σ b = some q := by
      cases h : σ b with
      | none => exact absurd (.inr h) hno
      | some q => exact ⟨q, rfl⟩
    rw [gt_some hp] at ha
    rw [gt_some hq] at hb
    obtain ⟨l1, e1, h1, g1⟩ := rel_all_on hp (by rw [hq]; rfl) ha
    rw [h1]
    simp only
    by_cases hab : a = b
    · subst hab
      obtain rfl : p = q := by rw [hp] at hq; injection hq
      have s1 : up σ a { p with al := l1 } a = some { p with al := l1 } := up_same _ _ _
      obtain ⟨l2, e2, h2, g2⟩ := rel_act_on (b := a) s1 (by rw [s1]; rfl) hb
      rw [h2]
      simp only
      rw [up_up]
      have s2 : up σ a { p with al := l1, ac := l2 } a = some { p with al := l1, ac := l2 } := up_same _ _ _
      rw [rel_all_off (l := p.al) s2 (by rw [s2]; rfl) ha (g1.elim (fun h => .inl h.2) (fun h => .inr h.2))]
      simp only
      rw [up_up]
      have s3 : up σ a { p with al := p.al, ac := l2 } a = some { p with al := p.al, ac := l2 } := up_same _ _ _
      rw [rel_act_off (l := p.ac) s3 (by rw [s3]; rfl) hb (g2.elim (fun h => .inl h.2) (fun h => .inr h.2))]
      simp only
      rw [up_up]
      refine ⟨?_, ?_, fun _ => trivial, fun _ => trivial, up_id hp⟩
      · rw [gt_same]
        rcases g1 with ⟨k1, k2⟩ | ⟨k1, k2⟩
        · rw [k1, k2]; simp
        · rw [k2]; simp [ha, k1]
      · rw [gt_same]
        rcases g2 with ⟨k1, k2⟩ | ⟨k1, k2⟩
        · rw [k1, k2]; simp
        · rw [k2]; simp [hb, k1]
    · have hba : b ≠ a := fun h => hab h.symm
      have s1 : up σ a { p with al := l1 } b = some q := (up_other hba).trans hq
      have s1' : up σ a { p with al := l1 } a = some { p with al := l1 } := up_same _ _ _
      obtain ⟨l2, e2, h2, g2⟩ := rel_act_on (b := a) s1 (by rw [s1']; rfl) hb
      rw [h2]
      simp only
      have s2 : up (up σ a { p with al := l1 }) b { q with ac := l2 } a = some { p with al := l1 } := (up_other hab).trans (up_same _ _ _)
      have s2' : up (up σ a { p with al := l1 }) b { q with ac := l2 } b = some { q with ac := l2 } := up_same _ _ _
      rw [rel_all_off (l := p.al) s2 (by rw [s2']; rfl) ha (g1.elim (fun h => .inl h.2) (fun h => .inr h.2))]
      simp only
      have s3 : up (up (up σ a { p with al := l1 }) b { q with ac := l2 }) a p b = some { q with ac := l2 } := (up_other hba).trans (up_same _ _ _)
      have s3' : up (up (up σ a { p with al := l1 }) b { q with ac := l2 }) a p a = some p := up_same _ _ _
      rw [rel_act_off (l := q.ac) s3 (by rw [s3']; rfl) hb (g2.elim (fun h => .inl h.2) (fun h => .inr h.2))]
      simp only
      refine ⟨?_, ?_, fun _ => trivial, fun _ => trivial, ?_⟩
      · rw [gt_other hab, gt_same]
        rcases g1 with ⟨k1, k2⟩ | ⟨k1, k2⟩
        · rw [k1, k2]; simp
        · rw [k2]; simp [ha, k1]
      · rw [gt_same]
        rcases g2 with ⟨k1, k2⟩ | ⟨k1, k2⟩
        · rw [k1, k2]; simp
        · rw [k2]; simp [hb, k1]
      · funext x
        by_cases e : x = b
        · subst e; rw [up_same, hq]
        · rw [up_other e]
          by_cases e' : x = a
          · subst e'; rw [up_same, hp]
          · rw [up_other e', up_other e, up_other e']
end Go.Proofs.Ytehmfkcihieecaa.Po
