/- Plain mathematics: more that is heard gives no less; what could be made gives nothing new. (Laid with NS=1.) -/
import Derived.Test.YtiidooponlbnmaaDoorKnL0
namespace Go.Proofs.YtiidooponlbnmaaDoor.Kn
open Go.RowKit
open Te Te.Tt

theorem can_known {kn : List Tm} {x : Tm} (h : x ∈ kn) : can kn x = true := by
  obtain ⟨k, s, n, l⟩ := x
  rw [can, decide_eq_true h]
  simp
theorem can_list {kn : List Tm} {s : List UInt8} {n : Int} {l : List Tm} (h : can kn (.mk 3 s n l) = true) : Tm.mk 3 s n l ∈ kn ∨ ∀ y ∈ l, can kn y = true := by
  rw [can] at h
  by_cases hm : Tm.mk 3 s n l ∈ kn
  · exact .inl hm
  · rw [decide_eq_false hm, cans_map] at h
    simp at h
    exact .inr h
theorem can_two {kn : List Tm} {k : Int} {s : List UInt8} {n : Int} {a b : Tm} (hk : k = 4 ∨ k = 5) (h : can kn (.mk k s n [a, b]) = true) : Tm.mk k s n [a, b] ∈ kn ∨ (a ∈ kn ∧ can kn b = true) := by
  rw [can] at h
  by_cases hm : Tm.mk k s n [a, b] ∈ kn
  · exact .inl hm
  · have h0 : ¬ k = 0 := by rcases hk with rfl | rfl <;> decide
    have h1 : ¬ k = 1 := by rcases hk with rfl | rfl <;> decide
    have h3 : ¬ k = 3 := by rcases hk with rfl | rfl <;> decide
    rw [decide_eq_false hm, decide_eq_false h0, decide_eq_false h1, if_neg h3, if_pos hk, cans_map] at h
    simp at h
    exact .inr ⟨h.1, h.2⟩
theorem can_key {kn : List Tm} {x : Tm} (hx : x.k = 2) (h : can kn x = true) : x ∈ kn := by
  obtain ⟨k, s, n, l⟩ := x
  obtain rfl : k = 2 := hx
  rw [can] at h
  by_cases hm : Tm.mk 2 s n l ∈ kn
  · exact hm
  · rw [decide_eq_false hm] at h
    simp at h
theorem can_mono {kn kn' : List Tm} (h : ∀ x ∈ kn, x ∈ kn') : ∀ x, can kn x = true → can kn' x = true := Tm.ind (by
  intro k s n l ih hc
  rw [can] at hc ⊢
  simp only [Bool.or_eq_true, decide_eq_true_eq] at hc ⊢
  rcases hc with ((hc | hc) | hc) | hc
  · exact .inl (.inl (.inl hc))
  · exact .inl (.inl (.inr hc))
  · exact .inl (.inr (h _ hc))
  · refine .inr ?_
    rw [cans_map] at hc ⊢
    by_cases h3 : k = 3
    · rw [if_pos h3] at hc ⊢
      simp at hc ⊢
      exact fun y hy => ih y hy (hc y hy)
    · rw [if_neg h3] at hc ⊢
      by_cases h45 : k = 4 ∨ k = 5
      · rw [if_pos h45, Bool.and_eq_true, decide_eq_true_eq] at hc ⊢
        refine ⟨h _ hc.1, ?_⟩
        match l, ih, hc.2 with
        | a :: b :: r, ih, h2 => exact ih b (by simp) (by simpa using h2)
        | [a], _, h2 => simp at h2
        | [], _, h2 => simp at h2
      · rw [if_neg h45] at hc; cases hc)
theorem cl_key {H : Tm → Prop} (hH : ∀ x, H x → vld 0 x = true) {k : Int} {s : List UInt8} {n : Int} {a b : Tm} (hk : k = 4 ∨ k = 5) (h : Cl H (.mk k s n [a, b])) : a.k = 2 := by
  obtain ⟨a', b', e, hak, -⟩ := mis_key (vld_own (h.vld hH)).1 hk
  injection e with e1 e2
  rw [e1]
  exact hak
/-- What could be made, if it is heard, makes nothing known that could not be made. -/
theorem cl_can {H H' : Tm → Prop} {kn : List Tm} (hkn : ∀ x, x ∈ kn ↔ Cl H x) (hH' : ∀ x, H' x → vld 0 x = true) (hc : ∀ x, H' x → can kn x = true) {z : Tm} (h : Cl H' z) : can kn z = true := by
  induction h with
  | heard h => exact hc _ h
  | list h hy ih =>
    rcases can_list ih with h1 | h1
    · exact can_known ((hkn _).2 (((hkn _).1 h1).list hy))
    · exact h1 _ hy
  | sum h ih =>
    rcases can_two (.inr rfl) ih with h1 | h1
    · exact can_known ((hkn _).2 ((hkn _).1 h1).sum)
    · exact h1.2
  | sld h ha ih iha =>
    have hak := can_key (cl_key hH' (.inl rfl) h) iha
    rcases can_two (.inl rfl) ih with h1 | h1
    · exact can_known ((hkn _).2 (((hkn _).1 h1).sld ((hkn _).1 hak)))
    · exact h1.2
theorem can_back {H H' : Tm → Prop} {kn kn' : List Tm} (hkn : ∀ x, x ∈ kn ↔ Cl H x) (hkn' : ∀ x, x ∈ kn' ↔ Cl H' x) (hH' : ∀ x, H' x → vld 0 x = true) (hc : ∀ x, H' x → can kn x = true) : ∀ x d, vld d x = true → can kn' x = true → can kn x = true := Tm.ind (by
  intro k s n l ih d hv h
  have hall := (vld_own hv).2
  by_cases hm : Tm.mk k s n l ∈ kn'
  · exact cl_can hkn hH' hc ((hkn' _).1 hm)
  have hmis := (vld_own hv).1
  rw [can] at h ⊢
  rw [decide_eq_false hm] at h
  simp only [Bool.or_eq_true, decide_eq_true_eq, Bool.false_eq_true, or_false] at h ⊢
  rcases h with (h | h) | h
  · exact .inl (.inl (.inl h))
  · exact .inl (.inl (.inr h))
  · refine .inr ?_
    rw [cans_map] at h ⊢
    by_cases h3 : k = 3
    · rw [if_pos h3] at h ⊢
      simp at h ⊢
      exact fun y hy => ih y hy (d + 1) (hall y hy) (h y hy)
    · rw [if_neg h3] at h ⊢
      by_cases h45 : k = 4 ∨ k = 5
      · obtain ⟨a, b, rfl, hak, -⟩ := mis_key hmis h45
        rw [if_pos h45, Bool.and_eq_true, decide_eq_true_eq] at h ⊢
        refine ⟨can_key hak (cl_can hkn hH' hc ((hkn' _).1 h.1)), ?_⟩
        exact ih b (by simp) (d + 1) (hall b (by simp)) (by simpa using h.2)
      · rw [if_neg h45] at h; cases h)
end Go.Proofs.YtiidooponlbnmaaDoor.Kn
