/- What keeps a key from being learned; one store beside nothing. (Laid with NS=1.) -/
import Derived.Test.YtiidooponlbnmaaDoorKnW13
namespace Go.Proofs.YtiidooponlbnmaaDoor.Kn
open Go.RowKit Go.Sort
open Te Te.Tt

/-- Neither the secret nor the guard stands where it could be learned. -/
def NoS (a b x : Tm) : Prop := shw a b x = false ∧ shw b a x = false ∧ shw b b x = false
theorem shw_self {a b : Tm} : shw a b a = true := by
  obtain ⟨k, s, n, l⟩ := a
  rw [shw, decide_eq_true rfl]
  rfl
theorem shw_list {a b : Tm} {s : List UInt8} {n : Int} {l : List Tm} {y : Tm} (h : shw a b (.mk 3 s n l) = false) (hy : y ∈ l) : shw a b y = false := by
  have hne : Tm.mk 3 s n l ≠ a := fun e => by rw [e, shw_self] at h; exact Bool.noConfusion h
  rw [shw_no hne (fun ht => by have := ht.1; omega), if_neg (fun hs => by rcases hs with h | h <;> omega), List.any_eq_false] at h
  have := h (shw a b y) (by rw [shws_map]; exact List.mem_map_of_mem hy)
  simpa using this
theorem shw_two {a b c d : Tm} {k : Int} {s : List UInt8} {n : Int} (hk : skp k) (h : shw a b (.mk k s n [c, d]) = false) (ht : ¬ tpl a b k [c, d]) : shw a b d = false := by
  have hne : Tm.mk k s n [c, d] ≠ a := fun e => by rw [e, shw_self] at h; exact Bool.noConfusion h
  rw [shw_no hne ht, if_pos hk, List.any_eq_false] at h
  have := h (shw a b d) (by simp [shws])
  simpa using this
theorem nos_cl {a b : Tm} {H : Tm → Prop} (h : ∀ x, H x → NoS a b x) {x : Tm} (hx : Cl H x) : NoS a b x := by
  induction hx with
  | heard hx => exact h _ hx
  | list _ hy ih => exact ⟨shw_list ih.1 hy, shw_list ih.2.1 hy, shw_list ih.2.2 hy⟩
  | sum _ ih =>
    have n5 : ∀ {u v : Tm} {r : List Tm}, ¬ tpl u v 5 r := fun ht => by have := ht.1; omega
    exact ⟨shw_two (.inr rfl) ih.1 n5, shw_two (.inr rfl) ih.2.1 n5, shw_two (.inr rfl) ih.2.2 n5⟩
  | sld _ _ ih ih2 =>
    rename_i s n c d _ _
    refine ⟨shw_two (.inl rfl) ih.1 fun ht => ?_, shw_two (.inl rfl) ih.2.1 fun ht => ?_, shw_two (.inl rfl) ih.2.2 fun ht => ht.2.2.2 rfl⟩
    · have e : c = b := ht.2.2.1
      have h3 := ih2.2.2
      rw [e, shw_self] at h3
      exact Bool.noConfusion h3
    · have e : c = a := ht.2.2.1
      have h3 := ih2.1
      rw [e, shw_self] at h3
      exact Bool.noConfusion h3
/-- Neither is known. -/
theorem nos_known {a b : Tm} {H : Tm → Prop} (h : ∀ x, H x → NoS a b x) : ¬ Cl H a ∧ ¬ Cl H b :=
  ⟨fun hx => by have := (nos_cl h hx).1; rw [shw_self] at this; exact Bool.noConfusion this, fun hx => by have := (nos_cl h hx).2.2; rw [shw_self] at this; exact Bool.noConfusion this⟩
/-- What is sealed by a key that is not known is made just if it is known. -/
theorem can_seal {kn : List Tm} {a b : Tm} {s : List UInt8} {n : Int} (h : a ∉ kn) : can kn (.mk 4 s n [a, b]) = decide (Tm.mk 4 s n [a, b] ∈ kn) := by
  rw [can]
  have : decide (hd1 [a, b] ∈ kn) = false := decide_eq_false h
  simp [this]

/-- A store in a later world. -/
def Sole (V : World) (g b c : Nat) (H : Tm → Prop) (P : Nat) (W : World) : Prop := ∃ F, One V g b c H P F W ∧ Below V.heap.size V W
section
variable {V W W' : World} {g b c : Nat} {H : Tm → Prop} {P : Nat}
theorem Sole.below (h : Sole V g b c H P W) (hb : Below W.heap.size W W') : Sole V g b c H P W' := by
  obtain ⟨F, h1, h2⟩ := h
  exact ⟨F, h1.below hb, h2.trans (hb.mono h2.size)⟩
theorem Sole.congr {H' : Tm → Prop} {P' : Nat} (h : Sole V g b c H P W) (e : ∀ y, H y ↔ H' y) (p : P ≤ P') : Sole V g b c H' P' W := by
  obtain ⟨F, h1, h2⟩ := h
  exact ⟨F, h1.congr e p, h2⟩
theorem Sole.learn (h : Sole V g b c H P W) (htab : TabB V.heap.size V) (x : Tm) (S : Nat → Prop) (v : Value) (hr : Rep W S x v) (hS : ∀ b, S b → b < W.heap.size) (P' : Nat) (hP : P + sz x ≤ P') (hP2 : P' ≤ 200000) :
    Calls Tryd.prog 11 #[.pointer (some ⟨g, 0, none⟩), v] W fun e w' => e = .returned (.tuple #[]) ∧ Sole V g b c (fun y => H y ∨ (y = x ∧ vld 0 x = true)) P' w' := by
  obtain ⟨F1, ⟨T, f, s, hs, hi, hF, hp⟩, h4⟩ := h
  refine (Learn_any V.heap.size W F1 g b c T f s hs H hi h4.size hF (htab.on h4) x S v hr hS P' (by omega) hP2).mono ?_
  rintro e w' ⟨rfl, hl⟩
  obtain ⟨F1', o1, ht, hf1, hf2⟩ := One.learnt h4.size hF hl
  exact ⟨rfl, F1', o1, h4.trans (ht.below h4.size hF)⟩
theorem Sole.known (h : Sole V g b c H P W) : ∃ F T f s, SR W F g b c T f s ∧ (∀ x, x ∈ s.kn ↔ Cl H x) := by
  obtain ⟨F, ⟨T, f, s, hs, hi, hF, hp⟩, h4⟩ := h
  exact ⟨F, T, f, s, hs, hi.known⟩
theorem Sole.bel (h : Sole V g b c H P W) : Below V.heap.size V W := by
  obtain ⟨F, _, h4⟩ := h
  exact h4
end
end Go.Proofs.YtiidooponlbnmaaDoor.Kn
