/- Plain mathematics of what one knows: hearing a term keeps what a store says, and ends. (Laid with NS=1.) -/
import Derived.Test.YtiidooponlbnmaaDoorKnPure
namespace Go.Proofs.YtiidooponlbnmaaDoor.Kn
open Go.RowKit
open Te Te.Tt

theorem Inv.add {H : Tm → Prop} {s : St} {q : List Tm} {x : Tm} (h : Inv H s (q ++ [x])) (hx : x ∉ s.kn) (wt' : List (Tm × Tm)) (r : List Tm)
    (hr1 : ∀ y ∈ r, vld 0 y = true ∧ Cl H y)
    (hw : ∀ p ∈ wt', (p ∈ s.wt ∧ p.1 ≠ x) ∨ (∃ t n, x = .mk 4 t n [p.1, p.2]) ∧ p.1 ∉ s.kn ∧ p.1 ≠ x ∧ p.1.k = 2)
    (hl : ∀ t n l, x = .mk 3 t n l → ∀ y ∈ l, y ∈ r) (hs : ∀ t n a b, x = .mk 5 t n [a, b] → b ∈ r)
    (he : ∀ t n a b, x = .mk 4 t n [a, b] → b ∈ r ∨ (a ∉ x :: s.kn ∧ (a, b) ∈ wt'))
    (ho : ∀ p ∈ s.wt, (p ∈ wt' ∧ p.1 ≠ x) ∨ (p.1 = x ∧ p.2 ∈ r)) : Inv H ⟨x :: s.kn, wt'⟩ (q ++ r) := by
  have hvx : vld 0 x = true := h.okq x (by simp)
  have hcx : Cl H x := h.clq x (by simp)
  have up : ∀ y, (y ∈ s.kn ∨ y ∈ q ++ [x]) → y ∈ x :: s.kn ∨ y ∈ q ++ r := by
    intro y hy
    rcases hy with hy | hy
    · exact .inl (List.mem_cons_of_mem _ hy)
    · rcases List.mem_append.1 hy with hy | hy
      · exact .inr (List.mem_append_left _ hy)
      · rw [List.mem_singleton.1 hy]; exact .inl (by simp)
  refine ⟨List.nodup_cons.2 ⟨hx, h.nd⟩, ?_, ?_, ?_, ?_, ?_, ?_, fun y hy => up y (h.all y hy), ?_, ?_, ?_⟩
  · intro y hy
    rcases List.mem_cons.1 hy with rfl | hy
    · exact hvx
    · exact h.ok y hy
  · intro y hy
    rcases List.mem_append.1 hy with hy | hy
    · exact h.okq y (List.mem_append_left _ hy)
    · exact (hr1 y hy).1
  · intro p hp
    rcases hw p hp with ⟨h1, _⟩ | ⟨⟨t, n, h1⟩, _, _, h2⟩
    · exact h.okw p h1
    · rw [h1] at hvx
      exact ⟨vld_sub0 hvx (by simp), vld_sub0 hvx (by simp), h2⟩
  · intro y hy
    rcases List.mem_cons.1 hy with rfl | hy
    · exact hcx
    · exact h.cl y hy
  · intro y hy
    rcases List.mem_append.1 hy with hy | hy
    · exact h.clq y (List.mem_append_left _ hy)
    · exact (hr1 y hy).2
  · intro p hp
    rcases hw p hp with ⟨h1, h2⟩ | ⟨⟨t, n, h1⟩, h2, h3, _⟩
    · obtain ⟨h3, t, n, h4⟩ := h.clw p h1
      exact ⟨fun hm => (List.mem_cons.1 hm).elim h2 h3, t, n, h4⟩
    · rw [h1] at hcx
      exact ⟨fun hm => (List.mem_cons.1 hm).elim h3 h2, t, n, hcx⟩
  · intro t n l hm y hy
    rcases List.mem_cons.1 hm with e | hm
    · exact .inr (List.mem_append_right _ (hl t n l e.symm y hy))
    · exact up y (h.list t n l hm y hy)
  · intro t n a b hm
    rcases List.mem_cons.1 hm with e | hm
    · exact .inr (List.mem_append_right _ (hs t n a b e.symm))
    · exact up b (h.sum t n a b hm)
  · intro t n a b hm
    rcases List.mem_cons.1 hm with e | hm
    · rcases he t n a b e.symm with h1 | h1
      · exact .inl (.inr (List.mem_append_right _ h1))
      · exact .inr h1
    · rcases h.sld t n a b hm with h1 | ⟨h1, h2⟩
      · exact .inl (up b h1)
      · rcases ho _ h2 with ⟨h3, h4⟩ | ⟨h3, h4⟩
        · exact .inr ⟨fun hm => (List.mem_cons.1 hm).elim h4 h1, h3⟩
        · exact .inl (.inr (List.mem_append_right _ h4))

theorem mem_of {s : St} {k y : Tm} : y ∈ s.of k ↔ (k, y) ∈ s.wt := by
  unfold St.of
  simp only [List.mem_map, List.mem_filter, decide_eq_true_eq]
  constructor
  · rintro ⟨⟨a, b⟩, ⟨h1, rfl⟩, rfl⟩; exact h1
  · intro h; exact ⟨(k, y), ⟨h, rfl⟩, rfl⟩
theorem Inv.step {H : Tm → Prop} {s : St} {q : List Tm} {x : Tm} (h : Inv H s (q ++ [x])) : Inv H (hr s x).1 (q ++ (hr s x).2) := by
  unfold hr
  by_cases hx : x ∈ s.kn
  · rw [if_pos hx]
    have dn : ∀ y, (y ∈ s.kn ∨ y ∈ q ++ [x]) → y ∈ s.kn ∨ y ∈ q ++ [] := by
      intro y hy
      rcases hy with hy | hy
      · exact .inl hy
      · rcases List.mem_append.1 hy with hy | hy
        · exact .inr (List.mem_append_left _ hy)
        · rw [List.mem_singleton.1 hy]; exact .inl hx
    exact ⟨h.nd, h.ok, fun y hy => h.okq y (by simp at hy; simp [hy]), h.okw, h.cl, fun y hy => h.clq y (by simp at hy; simp [hy]), h.clw, fun y hy => dn y (h.all y hy), fun t n l hm y hy => dn y (h.list t n l hm y hy), fun t n a b hm => dn b (h.sum t n a b hm), fun t n a b hm => (h.sld t n a b hm).imp_left (dn b)⟩
  · rw [if_neg hx]
    have hvx : vld 0 x = true := h.okq x (by simp)
    have hcx : Cl H x := h.clq x (by simp)
    have hk : ∀ p ∈ s.wt, p.1.k = 2 := fun p hp => (h.okw p hp).2.2
    obtain ⟨k, t, n, l⟩ := x
    have hm := (vld_own hvx).1
    rw [nw]
    by_cases h2 : k = 2
    · rw [if_pos h2]
      subst h2
      refine h.add hx _ _ ?_ ?_ ?_ ?_ ?_ ?_
      · intro y hy
        have hy := mem_of.1 hy
        obtain ⟨_, t', n', h4⟩ := h.clw _ hy
        exact ⟨(h.okw _ hy).2.1, h4.sld hcx⟩
      · intro p hp
        simp only [List.mem_filter, Bool.not_eq_true', decide_eq_false_iff_not] at hp
        exact .inl hp
      · intro t' n' l' e; injection e with e; cases e
      · intro t' n' a b e; injection e with e; cases e
      · intro t' n' a b e; injection e with e; cases e
      · intro p hp
        by_cases e : p.1 = .mk 2 t n l
        · exact .inr ⟨e, mem_of.2 (by rw [← e]; exact hp)⟩
        · exact .inl ⟨by simp only [List.mem_filter, Bool.not_eq_true', decide_eq_false_iff_not]; exact ⟨hp, e⟩, e⟩
    rw [if_neg h2]
    have hne : ∀ p ∈ s.wt, p.1 ≠ .mk k t n l := fun p hp e => h2 (by have := hk p hp; rw [e] at this; exact this)
    by_cases h3 : k = 3
    · rw [if_pos h3]
      subst h3
      refine h.add hx _ _ ?_ (fun p hp => .inl ⟨hp, hne p hp⟩) ?_ ?_ ?_ (fun p hp => .inl ⟨hp, hne p hp⟩)
      · intro y hy; exact ⟨vld_sub0 hvx hy, hcx.list hy⟩
      · intro t' n' l' e y hy; injection e with _ _ _ e; rw [e]; exact hy
      · intro t' n' a b e; injection e with e; cases e
      · intro t' n' a b e; injection e with e; cases e
    rw [if_neg h3]
    by_cases h4 : k = 4
    · rw [if_pos h4]
      subst h4
      obtain ⟨a, b, rfl, hak, -, -⟩ := mis_key hm (.inl rfl)
      have hax : a ≠ .mk 4 t n [a, b] := fun e => by rw [e] at hak; cases hak
      by_cases ha : hd1 [a, b] ∈ s.kn
      · rw [if_pos ha]
        show Inv H ⟨_, s.wt⟩ (q ++ [b])
        replace ha : a ∈ s.kn := ha
        refine h.add hx _ _ ?_ (fun p hp => .inl ⟨hp, hne p hp⟩) ?_ ?_ ?_ (fun p hp => .inl ⟨hp, hne p hp⟩)
        · intro y hy; rw [List.mem_singleton.1 hy]; exact ⟨vld_sub0 hvx (by simp), hcx.sld (h.cl a ha)⟩
        · intro t' n' l' e; injection e with e; cases e
        · intro t' n' a' b' e; injection e with e; cases e
        · intro t' n' a' b' e; injection e with _ _ _ e; injection e with e1 e2; injection e2 with e2; exact .inl (by rw [← e2]; simp)
      · rw [if_neg ha]
        show Inv H ⟨_, s.wt ++ [(a, b)]⟩ (q ++ [])
        replace ha : a ∉ s.kn := ha
        refine h.add hx _ _ (by simp) ?_ ?_ ?_ ?_ (fun p hp => .inl ⟨List.mem_append_left _ hp, hne p hp⟩)
        · intro p hp
          rcases List.mem_append.1 hp with hp | hp
          · exact .inl ⟨hp, hne p hp⟩
          · rw [List.mem_singleton.1 hp]; exact .inr ⟨⟨t, n, rfl⟩, ha, hax, hak⟩
        · intro t' n' l' e; injection e with e; cases e
        · intro t' n' a' b' e; injection e with e; cases e
        · intro t' n' a' b' e
          injection e with _ _ _ e; injection e with e1 e2; injection e2 with e2
          subst e1 e2
          exact .inr ⟨fun hm => (List.mem_cons.1 hm).elim hax ha, by simp⟩
    rw [if_neg h4]
    by_cases h5 : k = 5
    · rw [if_pos h5]
      subst h5
      obtain ⟨a, b, rfl, hak, -, -⟩ := mis_key hm (.inr rfl)
      refine h.add hx _ _ ?_ (fun p hp => .inl ⟨hp, hne p hp⟩) ?_ ?_ ?_ (fun p hp => .inl ⟨hp, hne p hp⟩)
      · intro y hy
        obtain rfl : y = b := by simpa using hy
        exact ⟨vld_sub0 hvx (by simp), hcx.sum⟩
      · intro t' n' l' e; injection e with e; cases e
      · intro t' n' a' b' e; injection e with _ _ _ e; injection e with e1 e2; injection e2 with e2; rw [← e2]; simp
      · intro t' n' a' b' e; injection e with e; cases e
    rw [if_neg h5]
    refine h.add hx _ _ (by simp) (fun p hp => .inl ⟨hp, hne p hp⟩) ?_ ?_ ?_ (fun p hp => .inl ⟨hp, hne p hp⟩)
    · intro t' n' l' e; injection e with e; exact absurd e h3
    · intro t' n' a' b' e; injection e with e; exact absurd e h5
    · intro t' n' a' b' e; injection e with e; exact absurd e h4

/-! ### It ends -/
def wz (s : St) : Nat := Te.Tt.szs (s.wt.map (·.2))
theorem szs_parts (k : Tm) : ∀ l : List (Tm × Tm), Te.Tt.szs ((l.filter fun p => !decide (p.1 = k)).map (·.2)) + Te.Tt.szs ((l.filter fun p => decide (p.1 = k)).map (·.2)) = Te.Tt.szs (l.map (·.2))
  | [] => by simp [Te.Tt.szs]
  | p :: r => by
    have ih := szs_parts k r
    by_cases h : p.1 = k
    · simp only [List.filter_cons, h, decide_true, Bool.not_true, if_false, if_true, List.map_cons, Te.Tt.szs, Bool.false_eq_true]
      omega
    · simp only [List.filter_cons, h, decide_false, Bool.not_false, if_false, if_true, List.map_cons, Te.Tt.szs, Bool.false_eq_true]
      omega
theorem step_lt {s : St} {x : Tm} (hx : vld 0 x = true) : wz (hr s x).1 + Te.Tt.szs (hr s x).2 < wz s + sz x := by
  have hp := sz_pos x
  unfold hr
  by_cases hm : x ∈ s.kn
  · rw [if_pos hm]; simp only [Te.Tt.szs]; omega
  rw [if_neg hm]
  obtain ⟨k, t, n, l⟩ := x
  have hmis := (vld_own hx).1
  rw [nw]
  by_cases h2 : k = 2
  · rw [if_pos h2]
    have := szs_parts (.mk k t n l) s.wt
    simp only [wz, St.of] at this ⊢
    omega
  rw [if_neg h2]
  by_cases h3 : k = 3
  · rw [if_pos h3]
    simp only [wz, sz]
    omega
  rw [if_neg h3]
  by_cases h4 : k = 4
  · rw [if_pos h4]
    obtain ⟨a, b, rfl, -⟩ := mis_key hmis (.inl h4)
    have ha := sz_pos a
    split
    · simp only [wz, sz, Te.Tt.szs, hd2]; omega
    · simp only [wz, sz, Te.Tt.szs, hd2, List.map_append, List.map_cons, List.map_nil, szs_app]; omega
  rw [if_neg h4]
  by_cases h5 : k = 5
  · rw [if_pos h5]
    obtain ⟨a, b, rfl, -⟩ := mis_key hmis (.inr h5)
    have ha := sz_pos a
    simp only [wz, sz, Te.Tt.szs, List.drop_succ_cons, List.drop_zero]; omega
  rw [if_neg h5]
  simp only [wz, Te.Tt.szs]
  omega
end Go.Proofs.YtiidooponlbnmaaDoor.Kn
