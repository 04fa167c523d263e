/- Plain mathematics: the document's example of what one knows. (Laid with NS=1.) -/
import Derived.Test.YtiidooponlbnmaaDoorKnPureA
namespace Go.Proofs.YtiidooponlbnmaaDoor.Kn
open Go.RowKit
open Te Te.Tt

abbrev exK : Tm := .mk 2 [97, 110, 110] 1 []
abbrev exX : Tm := .mk 0 [120] 0 []
abbrev exY : Tm := .mk 0 [121] 0 []
abbrev exR : Tm := .mk 3 [] 0 [exX, exY]
abbrev exS : Tm := .mk 4 [] 2 [exK, exR]
abbrev exM : Tm := .mk 4 [] 9 [exK, .mk 1 [] 3 []]
abbrev exO : Tm := .mk 2 [97, 110, 110] 2 []
theorem exS_vld : vld 0 exS = true := by decide +kernel
theorem exK_vld : vld 0 exK = true := by decide +kernel
theorem exX_vld : vld 0 exX = true := by decide +kernel
theorem exM_vld : vld 0 exM = true := by decide +kernel
theorem exO_vld : vld 0 exO = true := by decide +kernel
/-- What is heard, one behind the other. -/
abbrev hd0 : Tm → Prop := fun _ => False
abbrev hdn (H : Tm → Prop) (x : Tm) : Tm → Prop := fun y => H y ∨ (y = x ∧ vld 0 x = true)
theorem ex_one {z : Tm} (h : Cl (hdn hd0 exS) z) : z = exS := by
  induction h with
  | heard h => rcases h with h | h; exact h.elim; exact h.1
  | list _ _ ih => injection ih with e; cases e
  | sum _ ih => injection ih with e; cases e
  | sld _ _ ih ih2 =>
    injection ih with _ _ _ e
    injection e with e1 e2
    rw [e1] at ih2
    injection ih2 with e
    cases e
theorem ex_two {z : Tm} (h : Cl (hdn (hdn hd0 exS) exK) z) : z = exS ∨ z = exK ∨ z = exR ∨ z = exX ∨ z = exY := by
  induction h with
  | heard h =>
    rcases h with (h | h) | h
    · exact h.elim
    · exact .inl h.1
    · exact .inr (.inl h.1)
  | list _ hy ih =>
    rcases ih with e | e | e | e | e
    · injection e with e; cases e
    · injection e with e; cases e
    · injection e with _ _ _ e
      rw [e] at hy
      simp only [List.mem_cons, List.not_mem_nil, or_false] at hy
      rcases hy with hy | hy
      · exact .inr (.inr (.inr (.inl hy)))
      · exact .inr (.inr (.inr (.inr hy)))
    · injection e with e; cases e
    · injection e with e; cases e
  | sum _ ih =>
    rcases ih with e | e | e | e | e <;> (injection e with e; cases e)
  | sld _ _ ih _ =>
    rcases ih with e | e | e | e | e
    · injection e with _ _ _ e
      injection e with _ e
      injection e with e
      exact .inr (.inr (.inl e))
    · injection e with e; cases e
    · injection e with e; cases e
    · injection e with e; cases e
    · injection e with e; cases e
theorem ex_all : ∀ z, Cl (hdn (hdn hd0 exS) exK) z ↔ z ∈ [exS, exK, exR, exX, exY] := by
  intro z
  have hS : Cl (hdn (hdn hd0 exS) exK) exS := .heard (.inl (.inr ⟨rfl, exS_vld⟩))
  have hK : Cl (hdn (hdn hd0 exS) exK) exK := .heard (.inr ⟨rfl, exK_vld⟩)
  have hR : Cl (hdn (hdn hd0 exS) exK) exR := hS.sld hK
  constructor
  · intro h
    rcases ex_two h with e | e | e | e | e <;> simp [e]
  · intro h
    simp only [List.mem_cons, List.not_mem_nil, or_false] at h
    rcases h with rfl | rfl | rfl | rfl | rfl
    · exact hS
    · exact hK
    · exact hR
    · exact hR.list (by simp)
    · exact hR.list (by simp)
theorem nodup_len {l m : List Tm} (hl : l.Nodup) (hm : m.Nodup) (h : ∀ x, x ∈ l ↔ x ∈ m) : l.length = m.length := by
  have key : ∀ (l m : List Tm), l.Nodup → (∀ x ∈ l, x ∈ m) → l.length ≤ m.length := by
    intro l
    induction l with
    | nil => intro m _ _; simp
    | cons a r ih =>
      intro m h hs
      obtain ⟨h1, h2⟩ := List.nodup_cons.1 h
      have ha := hs a (by simp)
      have h3 := ih (m.erase a) h2 (fun x hx => (List.mem_erase_of_ne (fun e => h1 (by rw [← e]; exact hx))).2 (hs x (by simp [hx])))
      rw [List.length_erase_of_mem ha] at h3
      have := List.length_pos_of_mem ha
      rw [List.length_cons]
      omega
  exact Nat.le_antisymm (key l m hl fun x hx => (h x).1 hx) (key m l hm fun x hx => (h x).2 hx)
theorem ex_nodup : [exS, exK, exR, exX, exY].Nodup := by decide +kernel
end Go.Proofs.YtiidooponlbnmaaDoor.Kn
