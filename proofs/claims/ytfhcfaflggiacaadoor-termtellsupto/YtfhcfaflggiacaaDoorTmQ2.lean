/- Plain mathematics of parts: what is valid within, how large. -/
import Derived.Test.YtfhcfaflggiacaaDoorTmPure
namespace Go.Proofs.YtfhcfaflggiacaaDoor
namespace Tt

theorem parts_ge : ∀ (x : Tm) (d e : Nat) (y : Tm), (e, y) ∈ parts d x → d ≤ e := Tm.ind (by
  intro k s n l ih d e y h
  rw [parts] at h
  rcases List.mem_cons.1 h with h | h
  · simp at h; omega
  · have : ∀ l : List Tm, (∀ x ∈ l, ∀ (d e : Nat) (y : Tm), (e, y) ∈ parts d x → d ≤ e) → (e, y) ∈ partss (d + 1) l → d + 1 ≤ e := by
      intro l
      induction l with
      | nil => intro _ h; simp [partss] at h
      | cons z r ihr =>
        intro hz h
        rw [partss, List.mem_append] at h
        rcases h with h | h
        · exact hz z (by simp) _ _ _ h
        · exact ihr (fun w hw => hz w (by simp [hw])) h
    have := this l ih h
    omega)

theorem vld_mono : ∀ (x : Tm) (d d' : Nat), d' ≤ d → vld d x = true → vld d' x = true := Tm.ind (by
  intro k s n l ih d d' hd h
  rw [vld_mk] at h ⊢
  simp only [Bool.and_eq_true, decide_eq_true_eq, List.all_eq_true] at h ⊢
  exact ⟨⟨by omega, h.1.2⟩, fun x hx => ih x hx (d + 1) (d' + 1) (by omega) (h.2 x hx)⟩)

theorem vld_part : ∀ (x : Tm) (d e : Nat) (y : Tm), (e, y) ∈ parts d x → vld d x = true → vld e y = true := Tm.ind (by
  intro k s n l ih d e y h hv
  rw [parts] at h
  rcases List.mem_cons.1 h with h | h
  · simp at h
    obtain ⟨rfl, rfl⟩ := h
    exact hv
  · rw [vld_mk] at hv
    simp only [Bool.and_eq_true, decide_eq_true_eq, List.all_eq_true] at hv
    have : ∀ l : List Tm, (∀ x ∈ l, ∀ (d e : Nat) (y : Tm), (e, y) ∈ parts d x → vld d x = true → vld e y = true) → (∀ x ∈ l, vld (d + 1) x = true) → (e, y) ∈ partss (d + 1) l → vld e y = true := by
      intro l
      induction l with
      | nil => intro _ _ h; simp [partss] at h
      | cons z r ihr =>
        intro hz hv h
        rw [partss, List.mem_append] at h
        rcases h with h | h
        · exact hz z (by simp) _ _ _ h (hv z (by simp))
        · exact ihr (fun w hw => hz w (by simp [hw])) (fun w hw => hv w (by simp [hw])) h
    exact this l ih hv.2 h)

theorem parts_at : ∀ (x : Tm) (d i e : Nat) (y : Tm), (parts d x)[i]? = some (e, y) → i + sz y ≤ sz x := Tm.ind (by
  intro k s n l ih d i e y h
  rw [parts] at h
  rw [sz]
  match i, h with
  | 0, h =>
    simp at h
    obtain ⟨rfl, rfl⟩ := h
    rw [sz]; omega
  | i + 1, h =>
    rw [List.getElem?_cons_succ] at h
    have : ∀ (l : List Tm) (i : Nat), (∀ x ∈ l, ∀ (d i e : Nat) (y : Tm), (parts d x)[i]? = some (e, y) → i + sz y ≤ sz x) → (partss (d + 1) l)[i]? = some (e, y) → i + sz y ≤ szs l := by
      intro l
      induction l with
      | nil => intro i _ h; simp [partss] at h
      | cons z r ihr =>
        intro i hz h
        rw [partss] at h
        rw [szs]
        by_cases hi : i < (parts (d + 1) z).length
        · rw [List.getElem?_append_left hi] at h
          have := hz z (by simp) _ _ _ _ h
          omega
        · rw [List.getElem?_append_right (by omega)] at h
          have hl := parts_len (d + 1) z
          have := ihr _ (fun w hw => hz w (by simp [hw])) h
          omega
    have := this l i ih h
    omega)

/-- The parts by themselves. -/
def ps (x : Tm) : List Tm := (parts 0 x).map (·.2)
theorem ps_len (x : Tm) : (ps x).length = sz x := by rw [ps, List.length_map, parts_len]
theorem ps_zero (x : Tm) (h : 0 < (ps x).length) : (ps x)[0] = x := by
  obtain ⟨k, s, n, l⟩ := x
  simp [ps, parts]
theorem ps_at (x : Tm) (i : Nat) (h : i < (ps x).length) : i + sz (ps x)[i] ≤ sz x ∧ (vld 0 x = true → vld 0 (ps x)[i] = true) := by
  have hi : i < (parts 0 x).length := by simpa [ps] using h
  have he : (ps x)[i] = ((parts 0 x)[i]).2 := by simp [ps]
  rw [he]
  cases hp : (parts 0 x)[i] with
  | mk e y =>
    have h1 : (parts 0 x)[i]? = some (e, y) := by rw [List.getElem?_eq_getElem hi, hp]
    refine ⟨parts_at x 0 i e y h1, fun hv => ?_⟩
    have hm : (e, y) ∈ parts 0 x := List.mem_of_getElem? h1
    exact vld_mono y e 0 (by omega) (vld_part x 0 e y hm hv)
end Tt
end Go.Proofs.YtfhcfaflggiacaaDoor
