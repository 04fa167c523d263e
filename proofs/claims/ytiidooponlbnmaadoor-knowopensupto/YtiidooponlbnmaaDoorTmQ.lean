/- Plain mathematics: an order of 0 is equality; a text tells its term. -/
import Derived.Test.YtiidooponlbnmaaDoorTmV2
import Derived.Lib.ItoaMem
namespace Go.Proofs.YtiidooponlbnmaaDoor.Te
namespace Tt
open Go

theorem ci_zero {a b : Int} : ci a b = 0 ↔ a = b := by
  unfold ci
  split
  · constructor
    · intro h; omega
    · intro h; omega
  · split <;> simp_all
theorem cs_zero : ∀ {a b : List UInt8}, cs a b = 0 ↔ a = b
  | [], [] => by simp [cs]
  | [], _ :: _ => by simp [cs]
  | _ :: _, [] => by simp [cs]
  | x :: r, y :: q => by
    rw [cs]
    have ih := cs_zero (a := r) (b := q)
    split
    · rename_i h
      simp
      intro e; subst e; omega
    · split
      · rename_i h; subst h; simp [ih]
      · rename_i h; simp [h]
theorem hd_zero {k k' : Int} {s s' : List UInt8} {n n' : Int} : hd k s n k' s' n' cs = 0 ↔ k = k' ∧ s = s' ∧ n = n' := by
  unfold hd
  have h1 := ci_zero (a := k) (b := k')
  have h2 := cs_zero (a := s) (b := s')
  have h3 := ci_zero (a := n) (b := n')
  split
  · rename_i h
    constructor
    · intro e; exact absurd e h
    · rintro ⟨e, -⟩; exact absurd (h1.2 e) h
  · rename_i h
    have hk := h1.1 (Decidable.not_not.1 h)
    split
    · rename_i h'
      constructor
      · intro e; exact absurd e h'
      · rintro ⟨-, e, -⟩; exact absurd (h2.2 e) h'
    · rename_i h'
      have hs := h2.1 (Decidable.not_not.1 h')
      simp [hk, hs, h3]
theorem ord_zero : ∀ x y, ord x y = 0 ↔ x = y := Tm.ind (by
  rintro k s n l ih ⟨k', s', n', l'⟩
  have hl : ∀ (l l' : List Tm), (∀ x ∈ l, ∀ y, ord x y = 0 ↔ x = y) → (ords l l' = 0 ↔ l = l') := by
    intro l
    induction l with
    | nil => intro l' _; cases l' <;> simp [ords]
    | cons x r ihr =>
      intro l' hx
      cases l' with
      | nil => simp [ords]
      | cons y q =>
        rw [ords]
        have h1 := hx x (by simp) y
        have h2 := ihr q (fun z hz => hx z (by simp [hz]))
        split
        · rename_i h
          constructor
          · intro e; exact absurd e h
          · intro e; injection e with e1 e2; exact absurd (h1.2 e1) h
        · rename_i h
          rw [h2]
          have := h1.1 (Decidable.not_not.1 h)
          simp [this]
  rw [ord]
  have h1 := hd_zero (k := k) (k' := k') (s := s) (s' := s') (n := n) (n' := n')
  have h2 := hl l l' ih
  split
  · rename_i h
    constructor
    · intro e; exact absurd e h
    · intro e; injection e with e1 e2 e3 e4; exact absurd (h1.2 ⟨e1, e2, e3⟩) h
  · rename_i h
    obtain ⟨rfl, rfl, rfl⟩ := h1.1 (Decidable.not_not.1 h)
    rw [h2]
    simp)
theorem ord_refl (x : Tm) : ord x x = 0 := (ord_zero x x).2 rfl

/-! ### A word, and what stands behind it -/
/-- What may stand behind a text: nothing, or a blank, or a bracket. -/
def Del (r : List UInt8) : Prop := ∀ c t, r = c :: t → nmB c = false
theorem del_nil : Del [] := by intro c t h; cases h
theorem del_cons {c : UInt8} {t : List UInt8} (h : nmB c = false) : Del (c :: t) := by intro d u e; injection e with e1 e2; subst e1; exact h
theorem word_eq : ∀ {u u' r r' : List UInt8}, u.all nmB = true → u'.all nmB = true → Del r → Del r' → u ++ r = u' ++ r' → u = u' ∧ r = r'
  | [], [], r, r', _, _, _, _, h => ⟨rfl, h⟩
  | [], c :: t, r, r', _, hu', hr, _, h => by
    have := hr c (t ++ r') h
    simp at hu'
    rw [this] at hu'
    exact absurd hu'.1 (by simp)
  | c :: t, [], r, r', hu, _, _, hr', h => by
    have := hr' c (t ++ r) h.symm
    simp at hu
    rw [this] at hu
    exact absurd hu.1 (by simp)
  | c :: t, c' :: t', r, r', hu, hu', hr, hr', h => by
    injection h with h1 h2
    simp at hu hu'
    obtain ⟨e1, e2⟩ := word_eq (u := t) (u' := t') (by simpa using hu.2) (by simpa using hu'.2) hr hr' h2
    exact ⟨by rw [h1, e1], e2⟩

/-! ### Numerals -/
/-- The number that digits tell. -/
def val (l : List UInt8) : Nat := l.foldl (fun a c => a * 10 + (c.toNat - 48)) 0
theorem val_snoc (l : List UInt8) (c : UInt8) : val (l ++ [c]) = val l * 10 + (c.toNat - 48) := by simp [val]
theorem dig_toNat (d : Nat) (h : d < 10) : (UInt8.ofNat (48 + d)).toNat = 48 + d := by rw [UInt8.toNat_ofNat']; omega
theorem val_dec (u : Nat) : val (Lib.decDigits u) = u := by
  induction u using Nat.strongRecOn with
  | _ u ih =>
    rw [Lib.decDigits]
    split
    · rename_i h
      rw [show [UInt8.ofNat (48 + u)] = [] ++ [UInt8.ofNat (48 + u)] from rfl, val_snoc, dig_toNat u h]
      simp [val]
    · rename_i h
      rw [val_snoc, ih (u / 10) (by omega), dig_toNat _ (by omega)]
      omega
def isDig (c : UInt8) : Bool := decide (48 ≤ c.toNat) && decide (c.toNat ≤ 57)
theorem dec_dig (u : Nat) : (Lib.decDigits u).all isDig = true := by
  induction u using Nat.strongRecOn with
  | _ u ih =>
    rw [Lib.decDigits]
    split
    · rename_i h
      have := dig_toNat u h
      simp [isDig]; omega
    · rename_i h
      rw [List.all_append, ih (u / 10) (by omega)]
      have := dig_toNat (u % 10) (by omega)
      simp [isDig]; omega
theorem dec_ne (u : Nat) : Lib.decDigits u ≠ [] := by
  rw [Lib.decDigits]
  split <;> simp
theorem dig_nm {c : UInt8} (h : isDig c = true) : nmB c = true := by
  simp [isDig] at h
  simp [nmB, h]
theorem itoa_nm (n : Int) : (Lib.itoa n).all nmB = true := by
  have h : ∀ u, (Lib.decDigits u).all nmB = true := fun u => List.all_eq_true.2 fun c hc => dig_nm (List.all_eq_true.1 (dec_dig u) c hc)
  unfold Lib.itoa
  split
  · rw [List.all_cons, h]; rfl
  · exact h _
theorem itoa_ne (n : Int) : Lib.itoa n ≠ [] := by
  unfold Lib.itoa
  split
  · simp
  · exact dec_ne _
theorem dec_inj {u u' : Nat} (h : Lib.decDigits u = Lib.decDigits u') : u = u' := by
  have := congrArg val h
  rwa [val_dec, val_dec] at this
theorem dec_no_minus {u : Nat} {t : List UInt8} (h : Lib.decDigits u = 45 :: t) : False := by
  have := dec_dig u
  rw [h, List.all_cons] at this
  simp [isDig] at this
theorem itoa_inj {n n' : Int} (h : Lib.itoa n = Lib.itoa n') : n = n' := by
  unfold Lib.itoa at h
  split at h <;> split at h
  · injection h with _ h
    have := dec_inj h
    omega
  · exact (dec_no_minus h.symm).elim
  · exact (dec_no_minus h).elim
  · have := dec_inj h
    omega
theorem pfx_of {s : List UInt8} (h : ∀ j (hj : j < s.length), dgc j s[j] = true) : pfx s s.length = true := by
  rw [pfx, List.all_eq_true]
  intro j hj
  have hj' := List.mem_range.1 hj
  simpa [hj'] using h j hj'
theorem itoa_pfx (n : Int) : pfx (Lib.itoa n) (Lib.itoa n).length = true := by
  have hd : ∀ u j (hj : j < (Lib.decDigits u).length), isDig (Lib.decDigits u)[j] = true := fun u j hj => List.all_eq_true.1 (dec_dig u) _ (List.getElem_mem hj)
  refine pfx_of fun j hj => ?_
  unfold Lib.itoa at hj
  by_cases hn : n < 0
  · simp only [if_pos hn] at hj
    have e : Lib.itoa n = 45 :: Lib.decDigits n.natAbs := by unfold Lib.itoa; rw [if_pos hn]
    simp only [e]
    cases j with
    | zero => rfl
    | succ j =>
      have := hd n.natAbs j (by simpa using hj)
      simp only [List.getElem_cons_succ]
      unfold dgc
      unfold isDig at this
      rw [this]; rfl
  · simp only [if_neg hn] at hj
    have e : Lib.itoa n = Lib.decDigits n.toNat := by unfold Lib.itoa; rw [if_neg hn]
    simp only [e]
    have := hd n.toNat j hj
    unfold dgc
    unfold isDig at this
    rw [this]; rfl

/-! ### A text tells its term -/
theorem name_all {s : List UInt8} (h : isName s = true) : s.all nmB = true ∧ s ≠ [] := by
  simp only [isName, Bool.and_eq_true, decide_eq_true_eq] at h
  exact ⟨h.2, by intro e; rw [e] at h; simp at h⟩

/-- What a text is: a word, and what stands behind it. -/
theorem vld_own {d : Nat} {k : Int} {s : List UInt8} {n : Int} {l : List Tm} (h : vld d (.mk k s n l) = true) : mis (.mk k s n l) = false ∧ ∀ x ∈ l, vld (d + 1) x = true := by
  rw [vld_mk] at h
  simp only [Bool.and_eq_true, Bool.not_eq_true', List.all_eq_true] at h
  exact ⟨h.1.2, h.2⟩
theorem mis_kinds {k : Int} {s : List UInt8} {n : Int} {l : List Tm} (h : mis (.mk k s n l) = false) :
    (k = 0 ∧ isName s = true ∧ n = 0 ∧ l = []) ∨ (k = 1 ∧ s = [] ∧ l = []) ∨ (k = 2 ∧ s.all nmB = true ∧ l = []) ∨ (k = 3 ∧ s = [] ∧ n = 0) ∨ (k = 4 ∧ s = [] ∧ ∃ a b, l = [a, b]) ∨ (k = 5 ∧ s = [] ∧ ∃ a b, l = [a, b]) := by
  have two : l.length = 2 → ∃ a b, l = [a, b] := by
    intro h
    match l, h with
    | [a, b], _ => exact ⟨a, b, rfl⟩
  have nil0 : ¬ 0 < l.length → l = [] := fun h => List.eq_nil_of_length_eq_zero (by omega)
  rw [mis] at h
  by_cases h0 : k = 0
  · rw [if_pos h0] at h
    simp only [Bool.or_eq_false_iff, Bool.not_eq_false', decide_eq_false_iff_not, Decidable.not_not] at h
    exact .inl ⟨h0, h.1.1, h.1.2, nil0 h.2⟩
  rw [if_neg h0] at h
  by_cases h1 : k = 1
  · rw [if_pos h1] at h
    simp only [Bool.or_eq_false_iff, decide_eq_false_iff_not, Decidable.not_not] at h
    exact .inr (.inl ⟨h1, h.1, nil0 h.2⟩)
  rw [if_neg h1] at h
  by_cases h2 : k = 2
  · rw [if_pos h2] at h
    simp only [Bool.or_eq_false_iff, decide_eq_false_iff_not, Bool.and_eq_false_iff, Bool.not_eq_false', Decidable.not_not] at h
    refine .inr (.inr (.inl ⟨h2, ?_, nil0 h.2⟩))
    rcases h.1.1 with e | e
    · rw [e]; rfl
    · exact (name_all e).1
  rw [if_neg h2] at h
  by_cases h3 : k = 3
  · rw [if_pos h3] at h
    simp only [Bool.or_eq_false_iff, decide_eq_false_iff_not, Decidable.not_not] at h
    exact .inr (.inr (.inr (.inl ⟨h3, h.1.1, h.1.2⟩)))
  rw [if_neg h3] at h
  by_cases h45 : k = 4 ∨ k = 5
  · rw [if_pos h45] at h
    simp only [Bool.or_eq_false_iff, decide_eq_false_iff_not, Decidable.not_not] at h
    obtain ⟨⟨⟨⟨e1, -⟩, -⟩, e2⟩, -⟩ := h
    rcases h45 with h4 | h5
    · exact .inr (.inr (.inr (.inr (.inl ⟨h4, e1, two e2⟩))))
    · exact .inr (.inr (.inr (.inr (.inr ⟨h5, e1, two e2⟩))))
  · rw [if_neg h45] at h; cases h

/-- What may stand behind a text, told more closely. -/
def Del2 (r : List UInt8) : Prop := ∀ c t, r = c :: t → c = 32 ∨ c = 41 ∨ c = 93
theorem del2_nil : Del2 [] := by intro c t h; cases h
theorem del2_cons {c : UInt8} {t : List UInt8} (h : c = 32 ∨ c = 41 ∨ c = 93) : Del2 (c :: t) := by intro d u e; injection e with e1 e2; subst e1; exact h
theorem Del2.del {r : List UInt8} (h : Del2 r) : Del r := by
  intro c t e
  rcases h c t e with rfl | rfl | rfl <;> rfl
theorem kill40 {r m t : List UInt8} (h : Del2 r) (e : [] ++ r = (40 :: m) ++ t) : False := by
  rcases h 40 (m ++ t) e with h | h | h <;> cases h

theorem shape {d : Nat} {k : Int} {s : List UInt8} {n : Int} {l : List Tm} (h : vld d (.mk k s n l) = true) (hd : dg (.mk k s n l) = false) : ∃ u t, text (.mk k s n l) = u ++ t ∧ u.all nmB = true ∧
    ((k = 0 ∧ t = [] ∧ u = s ∧ s ≠ [] ∧ pfx s s.length = false ∧ n = 0 ∧ l = []) ∨ (k = 1 ∧ t = [] ∧ u = Lib.itoa n ∧ s = [] ∧ l = []) ∨ (k = 2 ∧ t = 40 :: (s ++ 32 :: (Lib.itoa n ++ [41])) ∧ u = [107, 101, 121] ∧ s.all nmB = true ∧ l = []) ∨
     (k = 3 ∧ t = 91 :: (jn (texts l) ++ [93]) ∧ u = [] ∧ s = [] ∧ n = 0) ∨ (k = 4 ∧ u = [115, 101, 97, 108] ∧ s = [] ∧ ∃ a b, l = [a, b] ∧ t = 40 :: (text a ++ 32 :: (Lib.itoa n ++ 32 :: (text b ++ [41])))) ∨ (k = 5 ∧ u = [115, 117, 109] ∧ s = [] ∧ ∃ a b, l = [a, b] ∧ t = 40 :: (text a ++ 32 :: (Lib.itoa n ++ 32 :: (text b ++ [41]))))) := by
  rcases mis_kinds (vld_own h).1 with ⟨rfl, h1, rfl, rfl⟩ | ⟨rfl, rfl, rfl⟩ | ⟨rfl, h1, rfl⟩ | ⟨rfl, rfl, rfl⟩ | ⟨rfl, rfl, a, b, rfl⟩ | ⟨rfl, rfl, a, b, rfl⟩
  · obtain ⟨h2, h3⟩ := name_all h1
    refine ⟨s, [], by simp [text, tx], h2, .inl ⟨rfl, rfl, rfl, h3, ?_, rfl, rfl⟩⟩
    rw [dg] at hd
    simpa [h3, dgl] using hd
  · exact ⟨Lib.itoa n, [], by simp [text, tx], itoa_nm n, .inr (.inl ⟨rfl, rfl, rfl, rfl, rfl⟩)⟩
  · exact ⟨[107, 101, 121], _, by simp [text, tx], by decide, .inr (.inr (.inl ⟨rfl, rfl, rfl, h1, rfl⟩))⟩
  · exact ⟨[], _, by simp [text, tx], by decide, .inr (.inr (.inr (.inl ⟨rfl, rfl, rfl, rfl, rfl⟩)))⟩
  · exact ⟨[115, 101, 97, 108], _, by simp [text, tx, texts, ky], by decide, .inr (.inr (.inr (.inr (.inl ⟨rfl, rfl, rfl, a, b, rfl, rfl⟩))))⟩
  · exact ⟨[115, 117, 109], _, by simp [text, tx, texts, ky], by decide, .inr (.inr (.inr (.inr (.inr ⟨rfl, rfl, rfl, a, b, rfl, rfl⟩))))⟩

def Tells (x : Tm) : Prop := ∀ (y : Tm) (d d' : Nat) (r r' : List UInt8), vld d x = true → vld d' y = true → dg x = false → dg y = false → Del2 r → Del2 r' → text x ++ r = text y ++ r' → x = y ∧ r = r'
theorem del2_32 (t : List UInt8) : Del2 (32 :: t) := del2_cons (.inl rfl)
theorem del2_41 (t : List UInt8) : Del2 (41 :: t) := del2_cons (.inr (.inl rfl))
theorem del2_93 (t : List UInt8) : Del2 (93 :: t) := del2_cons (.inr (.inr rfl))
theorem pj_del (l : List (List UInt8)) (r : List UInt8) : Del2 (pj l ++ 93 :: r) := by
  cases l with
  | nil => exact del2_93 r
  | cons a b => simp only [pj, List.flatMap_cons, List.cons_append]; exact del2_32 _
theorem pj_tells : ∀ (l l' : List Tm) (d d' : Nat) (r r' : List UInt8), (∀ x ∈ l, Tells x) → (∀ x ∈ l, vld d x = true) → (∀ x ∈ l', vld d' x = true) → dgl l = false → dgl l' = false → pj (texts l) ++ 93 :: r = pj (texts l') ++ 93 :: r' → l = l' ∧ r = r'
  | [], [], _, _, _, _, _, _, _, _, _, h => by
    simp [texts, pj] at h
    exact ⟨rfl, h⟩
  | [], y :: q, _, _, _, _, _, _, _, _, _, h => by simp [texts, pj] at h
  | x :: p, [], _, _, _, _, _, _, _, _, _, h => by simp [texts, pj] at h
  | x :: p, y :: q, d, d', r, r', ht, hv, hv', hg, hg', h => by
    rw [dgl, Bool.or_eq_false_iff] at hg hg'
    have h1 : text x ++ (pj (texts p) ++ 93 :: r) = text y ++ (pj (texts q) ++ 93 :: r') := by
      simpa [texts, pj] using h
    obtain ⟨rfl, h2⟩ := ht x (by simp) y d d' _ _ (hv x (by simp)) (hv' y (by simp)) hg.1 hg'.1 (pj_del _ _) (pj_del _ _) h1
    obtain ⟨rfl, h3⟩ := pj_tells p q d d' r r' (fun z hz => ht z (by simp [hz])) (fun z hz => hv z (by simp [hz])) (fun z hz => hv' z (by simp [hz])) hg.2 hg'.2 h2
    exact ⟨rfl, h3⟩
theorem text_head {d : Nat} {x : Tm} (h : vld d x = true) (hd : dg x = false) (r t : List UInt8) : text x ++ r ≠ 93 :: t := by
  obtain ⟨k, s, n, l⟩ := x
  obtain ⟨u, v, e, hu, hc⟩ := shape h hd
  intro he
  rw [e] at he
  have hnm : nmB 93 = false := rfl
  cases u with
  | cons c u' =>
    simp at he
    rw [List.all_cons, he.1, hnm] at hu
    simp at hu
  | nil =>
    rcases hc with ⟨-, -, e1, h1, -⟩ | ⟨-, -, e1, -⟩ | ⟨-, -, e1, -⟩ | ⟨-, e2, -⟩ | ⟨-, e1, -⟩ | ⟨-, e1, -⟩
    · exact h1 e1.symm
    · exact itoa_ne n e1.symm
    · cases e1
    · rw [e2] at he; simp at he
    · cases e1
    · cases e1
theorem jn_tells (l l' : List Tm) (d d' : Nat) (r r' : List UInt8) (ht : ∀ x ∈ l, Tells x) (hv : ∀ x ∈ l, vld d x = true) (hv' : ∀ x ∈ l', vld d' x = true) (hg : dgl l = false) (hg' : dgl l' = false) (h : jn (texts l) ++ 93 :: r = jn (texts l') ++ 93 :: r') : l = l' ∧ r = r' := by
  cases l with
  | nil =>
    cases l' with
    | nil => simp [texts, jn] at h; exact ⟨rfl, h⟩
    | cons y q =>
      rw [dgl, Bool.or_eq_false_iff] at hg'
      rw [texts, texts, jn, jn_pj, List.nil_append, List.append_assoc] at h
      exact absurd h.symm (text_head (hv' y (by simp)) hg'.1 _ _)
  | cons x p =>
    cases l' with
    | nil =>
      rw [dgl, Bool.or_eq_false_iff] at hg
      rw [texts, texts, jn_pj, jn, List.nil_append, List.append_assoc] at h
      exact absurd h (text_head (hv x (by simp)) hg.1 _ _)
    | cons y q =>
      rw [dgl, Bool.or_eq_false_iff] at hg hg'
      rw [texts, texts, jn_pj, jn_pj, List.append_assoc, List.append_assoc] at h
      obtain ⟨rfl, h2⟩ := ht x (by simp) y d d' _ _ (hv x (by simp)) (hv' y (by simp)) hg.1 hg'.1 (pj_del _ _) (pj_del _ _) h
      obtain ⟨rfl, h3⟩ := pj_tells p q d d' r r' (fun z hz => ht z (by simp [hz])) (fun z hz => hv z (by simp [hz])) (fun z hz => hv' z (by simp [hz])) hg.2 hg'.2 h2
      exact ⟨rfl, h3⟩

theorem two_tells {a b a' b' : Tm} {n n' : Int} {d d' : Nat} {r r' : List UInt8} (ha : Tells a) (hb : Tells b) (hv : vld d a = true ∧ vld d b = true) (hv' : vld d' a' = true ∧ vld d' b' = true) (hg : dgl [a, b] = false) (hg' : dgl [a', b'] = false)
    (h : 40 :: (text a ++ 32 :: (Lib.itoa n ++ 32 :: (text b ++ [41]))) ++ r = 40 :: (text a' ++ 32 :: (Lib.itoa n' ++ 32 :: (text b' ++ [41]))) ++ r') : a = a' ∧ b = b' ∧ n = n' ∧ r = r' := by
  simp only [dgl, Bool.or_eq_false_iff] at hg hg'
  have h1 : text a ++ (32 :: (Lib.itoa n ++ 32 :: (text b ++ 41 :: r))) = text a' ++ (32 :: (Lib.itoa n' ++ 32 :: (text b' ++ 41 :: r'))) := by simpa using h
  obtain ⟨rfl, h2⟩ := ha a' d d' _ _ hv.1 hv'.1 hg.1 hg'.1 (del2_32 _) (del2_32 _) h1
  injection h2 with _ h2
  obtain ⟨h3, h4⟩ := word_eq (itoa_nm n) (itoa_nm n') (del2_32 _).del (del2_32 _).del h2
  injection h4 with _ h4
  obtain ⟨rfl, h5⟩ := hb b' d d' _ _ hv.2 hv'.2 hg.2.1 hg'.2.1 (del2_41 _) (del2_41 _) h4
  injection h5 with _ h5
  exact ⟨rfl, rfl, itoa_inj h3, h5⟩

theorem text_tells : ∀ x, Tells x := Tm.ind (by
  rintro k s n l ih ⟨k', s', n', l'⟩ d d' r r' hv hv' hg hg' hr hr' h
  obtain ⟨u, t, e, hu, hc⟩ := shape hv hg
  obtain ⟨u', t', e', hu', hc'⟩ := shape hv' hg'
  rw [e, e', List.append_assoc, List.append_assoc] at h
  have hvl := (vld_own hv).2
  have hvl' := (vld_own hv').2
  have hgl : dgl l = false := by rw [dg, Bool.or_eq_false_iff] at hg; exact hg.2
  have hgl' : dgl l' = false := by rw [dg, Bool.or_eq_false_iff] at hg'; exact hg'.2
  have ht : Del (t ++ r) := by
    rcases hc with ⟨-, rfl, -⟩ | ⟨-, rfl, -⟩ | ⟨-, rfl, -⟩ | ⟨-, rfl, -⟩ | ⟨-, -, -, a, b, -, rfl⟩ | ⟨-, -, -, a, b, -, rfl⟩
    · exact hr.del
    · exact hr.del
    all_goals exact del_cons rfl
  have ht' : Del (t' ++ r') := by
    rcases hc' with ⟨-, rfl, -⟩ | ⟨-, rfl, -⟩ | ⟨-, rfl, -⟩ | ⟨-, rfl, -⟩ | ⟨-, -, -, a, b, -, rfl⟩ | ⟨-, -, -, a, b, -, rfl⟩
    · exact hr'.del
    · exact hr'.del
    all_goals exact del_cons rfl
  obtain ⟨h1, h2⟩ := word_eq hu hu' ht ht' h
  clear h e e' ht ht' hu hu'
  rcases hc with ⟨rfl, rfl, rfl, hs, hp, rfl, rfl⟩ | ⟨rfl, rfl, rfl, rfl, rfl⟩ | ⟨rfl, rfl, rfl, hs, rfl⟩ | ⟨rfl, rfl, rfl, rfl, rfl⟩ | ⟨rfl, rfl, rfl, a, b, rfl, rfl⟩ | ⟨rfl, rfl, rfl, a, b, rfl, rfl⟩ <;>
  rcases hc' with ⟨rfl, rfl, e1, hs', hp', rfl, rfl⟩ | ⟨rfl, rfl, e1, rfl, rfl⟩ | ⟨rfl, rfl, e1, hs', rfl⟩ | ⟨rfl, rfl, e1, rfl, rfl⟩ | ⟨rfl, e1, rfl, a', b', rfl, rfl⟩ | ⟨rfl, e1, rfl, a', b', rfl, rfl⟩ <;>
  first
  | (exact (kill40 hr h2).elim)
  | (exact (kill40 hr' h2.symm).elim)
  | (exfalso; rw [h1] at e1; cases e1; done)
  | (exfalso; rw [e1] at h1; cases h1; done)
  | (exfalso; rw [e1] at h1; exact hs h1)
  | (exfalso; rw [e1] at h1; exact hs' h1.symm)
  | (exfalso; rw [e1] at h1; exact itoa_ne _ h1)
  | (exfalso; rw [e1] at h1; exact itoa_ne _ h1.symm)
  | (exfalso; rw [e1] at h1; rw [h1, itoa_pfx] at hp; cases hp)
  | (exfalso; rw [e1] at h1; rw [← h1, itoa_pfx] at hp'; cases hp')
  | (rw [e1] at h1; subst h1; exact ⟨rfl, h2⟩)
  | (rw [e1] at h1; exact ⟨by rw [itoa_inj h1], h2⟩)
  | skip
  · have h3 : s ++ (32 :: (Lib.itoa n ++ 41 :: r)) = s' ++ (32 :: (Lib.itoa n' ++ 41 :: r')) := by simpa using h2
    obtain ⟨rfl, h4⟩ := word_eq hs hs' (del2_32 _).del (del2_32 _).del h3
    injection h4 with _ h4
    obtain ⟨h5, h6⟩ := word_eq (itoa_nm n) (itoa_nm n') (del2_41 _).del (del2_41 _).del h4
    injection h6 with _ h6
    exact ⟨by rw [itoa_inj h5], h6⟩
  · have h3 : jn (texts l) ++ 93 :: r = jn (texts l') ++ 93 :: r' := by simpa using h2
    obtain ⟨rfl, h4⟩ := jn_tells l l' _ _ r r' ih hvl hvl' hgl hgl' h3
    exact ⟨rfl, h4⟩
  · obtain ⟨rfl, rfl, rfl, h4⟩ := two_tells (ih a (by simp)) (ih b (by simp)) ⟨hvl a (by simp), hvl b (by simp)⟩ ⟨hvl' a' (by simp), hvl' b' (by simp)⟩ hgl hgl' h2
    exact ⟨rfl, h4⟩
  · obtain ⟨rfl, rfl, rfl, h4⟩ := two_tells (ih a (by simp)) (ih b (by simp)) ⟨hvl a (by simp), hvl b (by simp)⟩ ⟨hvl' a' (by simp), hvl' b' (by simp)⟩ hgl hgl' h2
    exact ⟨rfl, h4⟩)

/-- One text, one term. -/
theorem text_once {x y : Tm} {d d' : Nat} (hx : vld d x = true) (hy : vld d' y = true) (gx : dg x = false) (gy : dg y = false) (h : text x = text y) : x = y :=
  (text_tells x y d d' [] [] hx hy gx gy del2_nil del2_nil (by simpa using h)).1
end Tt
end Go.Proofs.YtiidooponlbnmaaDoor.Te
