/- The order of terms is one: turned round it is the other way, and of three it goes on. -/
import Derived.Test.YtfhcfaflggiacaaDoorTmQ
namespace Go.Proofs.YtfhcfaflggiacaaDoor
namespace Tt

/-- Of three, r is what must come of p and q. -/
def Tr (p q r : Int) : Prop := (p ≤ 0 → q ≤ 0 → r ≤ 0) ∧ (p < 0 → q ≤ 0 → r < 0) ∧ (p ≤ 0 → q < 0 → r < 0) ∧ (p = 0 → q = 0 → r = 0)
def lx (p q : Int) : Int := if p ≠ 0 then p else q
theorem Tr.lx {p q r p' q' r' : Int} (h : Tr p q r) (h' : Tr p' q' r') : Tr (lx p p') (lx q q') (lx r r') := by
  obtain ⟨h1, h2, h3, h4⟩ := h
  obtain ⟨k1, k2, k3, k4⟩ := h'
  unfold Tr Tt.lx
  refine ⟨?_, ?_, ?_, ?_⟩ <;> (intro a b; split <;> split at a <;> split at b <;> omega)
theorem lx_neg (p q : Int) : lx (-p) (-q) = -lx p q := by unfold lx; split <;> split <;> omega

theorem ci_neg (a b : Int) : ci b a = -ci a b := by unfold ci; split <;> split <;> (try split) <;> (try split) <;> omega
theorem ci_tr (a b c : Int) : Tr (ci a b) (ci b c) (ci a c) := by
  unfold Tr ci
  refine ⟨?_, ?_, ?_, ?_⟩ <;> (intro h1 h2; split at h1 <;> split at h2 <;> (try split at h1) <;> (try split at h2) <;> split <;> (try split) <;> omega)

theorem cs_neg : ∀ a b : List UInt8, cs b a = -cs a b
  | [], [] => by simp [cs]
  | [], _ :: _ => by simp [cs]
  | _ :: _, [] => by simp [cs]
  | x :: r, y :: q => by
    rw [cs, cs]
    have ih := cs_neg r q
    by_cases h : x = y
    · subst h; simp [ih]
    · have hne : x.toNat ≠ y.toNat := fun e => h (UInt8.toNat_inj.1 e)
      have h' : y ≠ x := fun e => h e.symm
      simp only [h, h', if_false]
      split <;> split <;> omega
theorem cs_tr : ∀ a b c : List UInt8, Tr (cs a b) (cs b c) (cs a c)
  | [], [], [] => by simp [cs, Tr]
  | [], [], _ :: _ => by simp [cs, Tr]
  | [], _ :: _, [] => by simp [cs, Tr]
  | [], _ :: _, _ :: _ => by simp [cs, Tr]
  | _ :: _, [], [] => by simp [cs, Tr]
  | _ :: _, [], _ :: _ => by simp [cs, Tr]
  | _ :: _, _ :: _, [] => by simp [cs, Tr]
  | x :: r, y :: q, z :: p => by
    have ih := cs_tr r q p
    have e : ∀ (x y : UInt8) (r q : List UInt8), cs (x :: r) (y :: q) = lx (ci x.toNat y.toNat) (cs r q) := by
      intro x y r q
      rw [cs, lx, ci]
      by_cases h : x = y
      · subst h; simp
      · have hne : x.toNat ≠ y.toNat := fun e => h (UInt8.toNat_inj.1 e)
        simp only [h, if_false]
        split <;> split <;> (try split) <;> omega
    rw [e, e, e]
    exact (ci_tr _ _ _).lx ih

theorem hd_lx (k : Int) (s : List UInt8) (n : Int) (k' : Int) (s' : List UInt8) (n' : Int) : hd k s n k' s' n' cs = lx (ci k k') (lx (cs s s') (ci n n')) := rfl
theorem ord_lx (k : Int) (s : List UInt8) (n : Int) (l : List Tm) (k' : Int) (s' : List UInt8) (n' : Int) (l' : List Tm) : ord (.mk k s n l) (.mk k' s' n' l') = lx (hd k s n k' s' n' cs) (ords l l') := by rw [ord]; rfl
theorem ords_lx (x y : Tm) (r q : List Tm) : ords (x :: r) (y :: q) = lx (ord x y) (ords r q) := by rw [ords]; rfl

theorem ord_neg : ∀ x y : Tm, ord y x = -ord x y := Tm.ind (by
  intro k s n l ih y
  obtain ⟨k', s', n', l'⟩ := y
  have hl : ∀ (l l' : List Tm), (∀ x ∈ l, ∀ y, ord y x = -ord x y) → ords l' l = -ords l l' := by
    intro l
    induction l with
    | nil => intro l' _; cases l' <;> simp [ords]
    | cons x r ihr =>
      intro l' h
      cases l' with
      | nil => simp [ords]
      | cons y q => rw [ords_lx, ords_lx, h x (by simp) y, ihr q (fun z hz => h z (by simp [hz])), lx_neg]
  rw [ord_lx, ord_lx, hl l l' ih, hd_lx, hd_lx, ci_neg k k', cs_neg s s', ci_neg n n', lx_neg, lx_neg, lx_neg])

theorem ord_tr : ∀ x y z : Tm, Tr (ord x y) (ord y z) (ord x z) := Tm.ind (by
  intro k s n l ih y z
  obtain ⟨k', s', n', l'⟩ := y
  obtain ⟨k'', s'', n'', l''⟩ := z
  have hl : ∀ (l l' l'' : List Tm), (∀ x ∈ l, ∀ y z, Tr (ord x y) (ord y z) (ord x z)) → Tr (ords l l') (ords l' l'') (ords l l'') := by
    intro l
    induction l with
    | nil => intro l' l'' _; cases l' <;> cases l'' <;> simp [ords, Tr]
    | cons x r ihr =>
      intro l' l'' h
      cases l' with
      | nil => cases l'' <;> simp [ords, Tr]
      | cons y q =>
        cases l'' with
        | nil => simp [ords, Tr]
        | cons z p => rw [ords_lx, ords_lx, ords_lx]; exact (h x (by simp) y z).lx (ihr q p (fun w hw => h w (by simp [hw])))
  rw [ord_lx, ord_lx, ord_lx, hd_lx, hd_lx, hd_lx]
  exact ((ci_tr _ _ _).lx ((cs_tr _ _ _).lx (ci_tr _ _ _))).lx (hl _ _ _ ih))

/-- It is -1, 0 or 1. -/
def Sg (p : Int) : Prop := -1 ≤ p ∧ p ≤ 1
theorem ci_sg (a b : Int) : Sg (ci a b) := by unfold Sg ci; split <;> (try split) <;> omega
theorem Sg.lx {p q : Int} (h : Sg p) (h' : Sg q) : Sg (lx p q) := by unfold Sg Tt.lx at *; split <;> omega
theorem cs_sg : ∀ a b : List UInt8, Sg (cs a b)
  | [], [] => by simp [cs, Sg]
  | [], _ :: _ => by simp [cs, Sg]
  | _ :: _, [] => by simp [cs, Sg]
  | x :: r, y :: q => by
    have ih := cs_sg r q
    rw [cs]
    split
    · simp [Sg]
    · split
      · exact ih
      · simp [Sg]
theorem ord_sg : ∀ x y : Tm, Sg (ord x y) := Tm.ind (by
  intro k s n l ih y
  obtain ⟨k', s', n', l'⟩ := y
  have hl : ∀ (l l' : List Tm), (∀ x ∈ l, ∀ y, Sg (ord x y)) → Sg (ords l l') := by
    intro l
    induction l with
    | nil => intro l' _; cases l' <;> simp [ords, Sg]
    | cons x r ihr =>
      intro l' h
      cases l' with
      | nil => simp [ords, Sg]
      | cons y q => rw [ords_lx]; exact (h x (by simp) y).lx (ihr q (fun z hz => h z (by simp [hz])))
  rw [ord_lx, hd_lx]
  exact ((ci_sg _ _).lx ((cs_sg _ _).lx (ci_sg _ _))).lx (hl _ _ ih))
end Tt
end Go.Proofs.YtfhcfaflggiacaaDoor
