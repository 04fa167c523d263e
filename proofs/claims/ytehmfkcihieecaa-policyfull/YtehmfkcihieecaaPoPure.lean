/- Principals, and what may be done with a store of them: plain. (Laid with NS=1.) -/
import Derived.Test.YtehmfkcihieecaaTmPure
namespace Go.Proofs.Ytehmfkcihieecaa.Po
open Te.Tt

abbrev Nm := List UInt8
structure Pr where
  nm : Nm
  ver : Int
  tr : Bool
  se : Bool
  al : List Nm
  ac : List Nm
  gr : List Int
  li : Int
/-- None. -/
def zp : Pr := ⟨[], 0, false, false, [], [], [], 0⟩
/-- A store: who is there. -/
abbrev Sto := Nm → Option Pr
def gt (σ : Sto) (a : Nm) : Pr := (σ a).getD zp
def up (σ : Sto) (a : Nm) (p : Pr) : Sto := fun x => if x = a then some p else σ x
theorem up_same (σ : Sto) (a : Nm) (p : Pr) : up σ a p a = some p := by simp [up]
theorem up_other {σ : Sto} {a x : Nm} {p : Pr} (h : x ≠ a) : up σ a p x = σ x := by simp [up, h]
theorem gt_same (σ : Sto) (a : Nm) (p : Pr) : gt (up σ a p) a = p := by simp [gt, up_same]
theorem gt_other {σ : Sto} {a x : Nm} {p : Pr} (h : x ≠ a) : gt (up σ a p) x = gt σ x := by simp [gt, up_other h]
theorem gt_none {σ : Sto} {a : Nm} (h : σ a = none) : gt σ a = zp := by simp [gt, h]
theorem gt_some {σ : Sto} {a : Nm} {p : Pr} (h : σ a = some p) : gt σ a = p := by simp [gt, h]

/-- A list that a principal may have. -/
def nms (l : List Nm) : Bool := decide (l.length ≤ 50) && (l.all isName && decide l.Nodup)
/-- May it be? -/
def vp (p : Pr) : Bool := isName p.nm && (nms p.al && (nms p.ac && (decide (1 ≤ p.ver) && (decide (p.ver ≤ 1000) && (decide (0 ≤ p.li) && (decide (p.li ≤ 1099511627776) && decide (p.gr.length ≤ 20)))))))
/-- What is held of each that is there. -/
structure Okp (a : Nm) (p : Pr) : Prop where
  nm : p.nm = a
  al : p.al.Nodup
  la : p.al.length ≤ 50
  ac : p.ac.Nodup
  lc : p.ac.length ≤ 50
  gr : p.gr.length ≤ 20
  v1 : 1 ≤ p.ver
  v2 : p.ver ≤ 1000
theorem okp_of {p : Pr} (h : vp p = true) : Okp p.nm p := by
  simp only [vp, nms, Bool.and_eq_true, decide_eq_true_eq] at h
  obtain ⟨-, ⟨h1, -, h2⟩, ⟨h3, -, h4⟩, h5, h6, -, -, h7⟩ := h
  exact ⟨rfl, h2, h1, h4, h3, h7, h5, h6⟩

/-- A name in a list, or not in it. -/
def put (l : List Nm) (b : Nm) (on : Bool) : List Nm × Int :=
  if decide (b ∈ l) = on then (l, 0) else if b ∈ l then (l.erase b, 0) else if 50 ≤ l.length then (l, 53) else (l ++ [b], 0)
theorem put_err {l : List Nm} {b : Nm} {on : Bool} (h : (put l b on).2 ≠ 0) : (put l b on).1 = l := by
  unfold put at h ⊢
  split at h
  · simp at h
  · rename_i h1
    split at h
    · simp at h
    · rename_i h2
      split at h
      · rename_i h3
        rw [if_neg h1, if_neg h2, if_pos h3]
      · simp at h
theorem put_mem {l : List Nm} {b : Nm} {on : Bool} (hl : l.Nodup) (h : (put l b on).2 = 0) (x : Nm) : x ∈ (put l b on).1 ↔ (if x = b then on = true else x ∈ l) := by
  unfold put at h ⊢
  by_cases h1 : decide (b ∈ l) = on
  · rw [if_pos h1]
    by_cases e : x = b
    · subst e
      rw [if_pos rfl, ← h1]
      simp
    · rw [if_neg e]
  · rw [if_neg h1] at h ⊢
    by_cases h2 : b ∈ l
    · rw [if_pos h2]
      have hon : on = false := by
        cases on
        · rfl
        · exact absurd (decide_eq_true h2) h1
      subst hon
      by_cases e : x = b
      · subst e
        rw [if_pos rfl]
        simp only [Bool.false_eq_true, iff_false]
        exact hl.not_mem_erase
      · rw [if_neg e]
        exact List.mem_erase_of_ne e
    · rw [if_neg h2] at h ⊢
      have hon : on = true := by
        cases on
        · exact absurd (decide_eq_false h2) h1
        · rfl
      subst hon
      by_cases h3 : 50 ≤ l.length
      · rw [if_pos h3] at h; simp at h
      · rw [if_neg h3]
        by_cases e : x = b
        · subst e; simp
        · simp [e]
theorem put_nodup {l : List Nm} {b : Nm} {on : Bool} (hl : l.Nodup) : (put l b on).1.Nodup := by
  unfold put
  split
  · exact hl
  · split
    · exact hl.erase b
    · rename_i h2
      split
      · exact hl
      · rw [List.nodup_append]
        refine ⟨hl, by simp, fun x hx y hy e => ?_⟩
        simp only [List.mem_singleton] at hy
        subst hy e
        exact h2 hx
theorem put_length {l : List Nm} {b : Nm} {on : Bool} (hl : l.length ≤ 50) : (put l b on).1.length ≤ 50 := by
  unfold put
  split
  · exact hl
  · split
    · have := List.length_erase_le (a := b) (l := l); simp only; omega
    · split
      · exact hl
      · rename_i h3
        simp only [List.length_append, List.length_singleton]; omega

/-- What may be done with one. -/
def allF (b : Nm) (on : Bool) (p : Pr) : Pr × Int := ({ p with al := (put p.al b on).1 }, (put p.al b on).2)
def actF (b : Nm) (on : Bool) (p : Pr) : Pr × Int := ({ p with ac := (put p.ac b on).1 }, (put p.ac b on).2)
def rekF (p : Pr) : Pr × Int := if 1000 ≤ p.ver then (p, 53) else ({ p with ver := p.ver + 1 }, 0)
def truF (on : Bool) (p : Pr) : Pr × Int := ({ p with tr := on }, 0)
def senF (on : Bool) (p : Pr) : Pr × Int := ({ p with se := on }, 0)
theorem allF_ok {a b : Nm} {on : Bool} {p : Pr} (h : Okp a p) : Okp a (allF b on p).1 := ⟨h.nm, put_nodup h.al, put_length h.la, h.ac, h.lc, h.gr, h.v1, h.v2⟩
theorem actF_ok {a b : Nm} {on : Bool} {p : Pr} (h : Okp a p) : Okp a (actF b on p).1 := ⟨h.nm, h.al, h.la, put_nodup h.ac, put_length h.lc, h.gr, h.v1, h.v2⟩
theorem rekF_ok {a : Nm} {p : Pr} (h : Okp a p) : Okp a (rekF p).1 := by
  unfold rekF
  split
  · exact h
  · rename_i h1
    exact ⟨h.nm, h.al, h.la, h.ac, h.lc, h.gr, by have := h.v1; simp only; omega, by simp only; omega⟩
theorem truF_ok {a : Nm} {on : Bool} {p : Pr} (h : Okp a p) : Okp a (truF on p).1 := ⟨h.nm, h.al, h.la, h.ac, h.lc, h.gr, h.v1, h.v2⟩
theorem senF_ok {a : Nm} {on : Bool} {p : Pr} (h : Okp a p) : Okp a (senF on p).1 := ⟨h.nm, h.al, h.la, h.ac, h.lc, h.gr, h.v1, h.v2⟩

/-- One is changed. -/
def chg (σ : Sto) (a : Nm) (f : Pr → Pr × Int) : Sto × Int := match σ a with
  | none => (σ, 40)
  | some p => if (f p).2 = 0 then (up σ a (f p).1, 0) else (σ, (f p).2)
def rel (σ : Sto) (a b : Nm) (f : Pr → Pr × Int) : Sto × Int := if (σ b).isSome then chg σ a f else (σ, 40)
/-- One more. -/
def addE (σ : Sto) (n : Nat) (p : Pr) : Int := if vp p = false then 1 else if (σ p.nm).isSome then 41 else if 100 ≤ n then 53 else 0
def add (σ : Sto) (n : Nat) (p : Pr) : Sto × Nat := if addE σ n p = 0 then (up σ p.nm p, n + 1) else (σ, n)
def Oks (σ : Sto) : Prop := ∀ a p, σ a = some p → Okp a p
theorem Oks.none : Oks (fun _ => none) := fun _ _ h => by cases h
theorem Oks.up {σ : Sto} {a : Nm} {p : Pr} (h : Oks σ) (hp : Okp a p) : Oks (up σ a p) := fun x q hq => by
  by_cases e : x = a
  · subst e; rw [up_same] at hq; cases hq; exact hp
  · rw [up_other e] at hq; exact h x q hq
theorem Oks.chg {σ : Sto} {a : Nm} {f : Pr → Pr × Int} (h : Oks σ) (hf : ∀ p, Okp a p → Okp a (f p).1) : Oks (chg σ a f).1 := by
  unfold Po.chg
  split
  · exact h
  · rename_i p hp
    split
    · exact h.up (hf p (h a p hp))
    · exact h
theorem Oks.add {σ : Sto} {n : Nat} {p : Pr} (h : Oks σ) : Oks (add σ n p).1 := by
  unfold Po.add
  split
  · rename_i h1
    refine h.up (okp_of ?_)
    unfold addE at h1
    by_cases hv : vp p = false
    · rw [if_pos hv] at h1; simp at h1
    · simpa using hv
  · exact h
end Go.Proofs.Ytehmfkcihieecaa.Po
