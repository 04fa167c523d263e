/- Plain mathematics of what one knows: a term's mark, and that no two valid terms share one. No program in here. (Laid with NS=1.) -/
import Derived.Test.YtiidooponlbnmaaDoorTmQ
namespace Go.Proofs.YtiidooponlbnmaaDoor.Kn
open Go.RowKit
open Te Te.Tt

instance : DecidableEq Tm := fun x y => decidable_of_iff (ord x y = 0) (ord_zero x y)

mutual
/-- A term's mark. -/
def mk : Tm → List UInt8
  | .mk k s n l => Lib.itoa k ++ 32 :: (s ++ 32 :: (Lib.itoa n ++ 32 :: (Lib.itoa (l.length : Nat) ++ 32 :: mks l)))
def mks : List Tm → List UInt8
  | [] => []
  | x :: r => mk x ++ mks r
end
theorem mks_app : ∀ (l m : List Tm), mks (l ++ m) = mks l ++ mks m
  | [], m => by rw [mks, List.nil_append, List.nil_append]
  | x :: r, m => by rw [List.cons_append, mks, mks, mks_app r m, List.append_assoc]

/-! ### Validity -/
theorem vld_sub {d : Nat} {k : Int} {s : List UInt8} {n : Int} {l : List Tm} (h : vld d (.mk k s n l) = true) {y : Tm} (hy : y ∈ l) : vld (d + 1) y = true := (vld_own h).2 y hy
theorem vld_down : ∀ (x : Tm) (d : Nat), vld (d + 1) x = true → vld d x = true := Tm.ind (by
  intro k s n l ih d h
  rw [vld_mk] at h ⊢
  simp only [Bool.and_eq_true, decide_eq_true_eq, List.all_eq_true] at h ⊢
  exact ⟨⟨by omega, h.1.2⟩, fun y hy => ih y hy (d + 1) (h.2 y hy)⟩)
theorem vld_sub0 {k : Int} {s : List UInt8} {n : Int} {l : List Tm} (h : vld 0 (.mk k s n l) = true) {y : Tm} (hy : y ∈ l) : vld 0 y = true := vld_down y 0 (vld_sub h hy)
theorem mis_nm {k : Int} {s : List UInt8} {n : Int} {l : List Tm} (h : mis (.mk k s n l) = false) : s.all nmB = true := by
  rcases mis_kinds h with ⟨_, h1, _⟩ | ⟨_, rfl, _⟩ | ⟨_, h1, _⟩ | ⟨_, rfl, _⟩ | ⟨_, rfl, _⟩ | ⟨_, rfl, _⟩
  · exact (name_all h1).1
  · rfl
  · exact h1
  · rfl
  · rfl
  · rfl
/-- What seals and sums has a key first. -/
theorem mis_key {k : Int} {s : List UInt8} {n : Int} {l : List Tm} (h : mis (.mk k s n l) = false) (hk : k = 4 ∨ k = 5) : ∃ a b, l = [a, b] ∧ a.k = 2 ∧ s = [] ∧ 1 ≤ n ∧ n ≤ 255 := by
  have h2 := h
  rw [mis] at h
  have h0 : k ≠ 0 := by rcases hk with rfl | rfl <;> decide
  have h1 : k ≠ 1 := by rcases hk with rfl | rfl <;> decide
  have h3 : k ≠ 2 := by rcases hk with rfl | rfl <;> decide
  have h4 : k ≠ 3 := by rcases hk with rfl | rfl <;> decide
  rw [if_neg h0, if_neg h1, if_neg h3, if_neg h4, if_pos hk] at h
  simp only [Bool.or_eq_false_iff, decide_eq_false_iff_not, Decidable.not_not] at h
  obtain ⟨⟨⟨⟨e1, e2⟩, e3⟩, e4⟩, e5⟩ := h
  match l, e4, e5 with
  | [a, b], _, e5 => exact ⟨a, b, rfl, e5, e1, by omega, by omega⟩

/-! ### A mark tells its term -/
theorem del_32 (t : List UInt8) : Del (32 :: t) := del_cons (by decide)
theorem word32 {u u' r r' : List UInt8} (hu : u.all nmB = true) (hu' : u'.all nmB = true) (h : u ++ 32 :: r = u' ++ 32 :: r') : u = u' ∧ r = r' := by
  obtain ⟨h1, h2⟩ := word_eq hu hu' (del_32 r) (del_32 r') h
  injection h2 with _ h2
  exact ⟨h1, h2⟩
def MTells (x : Tm) : Prop := ∀ (y : Tm) (d d' : Nat) (r r' : List UInt8), vld d x = true → vld d' y = true → mk x ++ r = mk y ++ r' → x = y ∧ r = r'
theorem mks_tells : ∀ (l l' : List Tm) (d d' : Nat) (r r' : List UInt8), (∀ x ∈ l, MTells x) → (∀ x ∈ l, vld d x = true) → (∀ x ∈ l', vld d' x = true) → l.length = l'.length → mks l ++ r = mks l' ++ r' → l = l' ∧ r = r'
  | [], [], _, _, r, r', _, _, _, _, h => ⟨rfl, by simpa [mks] using h⟩
  | x :: l, y :: l', d, d', r, r', ht, hv, hv', hl, h => by
    rw [mks, mks, List.append_assoc, List.append_assoc] at h
    obtain ⟨rfl, h2⟩ := ht x (by simp) y d d' _ _ (hv x (by simp)) (hv' y (by simp)) h
    obtain ⟨rfl, h3⟩ := mks_tells l l' d d' r r' (fun z hz => ht z (by simp [hz])) (fun z hz => hv z (by simp [hz])) (fun z hz => hv' z (by simp [hz])) (by simpa using hl) h2
    exact ⟨rfl, h3⟩
theorem mk_tells : ∀ x, MTells x := Tm.ind (by
  intro k s n l ih y d d' r r' hx hy h
  obtain ⟨k', s', n', l'⟩ := y
  obtain ⟨hm, hall⟩ := vld_own hx
  obtain ⟨hm', hall'⟩ := vld_own hy
  rw [mk, mk] at h
  simp only [List.append_assoc, List.cons_append] at h
  obtain ⟨h1, h⟩ := word32 (itoa_nm k) (itoa_nm k') h
  obtain ⟨h2, h⟩ := word32 (mis_nm hm) (mis_nm hm') h
  obtain ⟨h3, h⟩ := word32 (itoa_nm n) (itoa_nm n') h
  obtain ⟨h4, h⟩ := word32 (itoa_nm _) (itoa_nm _) h
  have e1 := itoa_inj h1
  have e3 := itoa_inj h3
  have e4 := itoa_inj h4
  obtain ⟨rfl, h5⟩ := mks_tells l l' (d + 1) (d' + 1) r r' ih hall hall' (by omega) h
  exact ⟨by rw [e1, h2, e3], h5⟩)
theorem mk_inj {x y : Tm} (hx : vld 0 x = true) (hy : vld 0 y = true) (h : mk x = mk y) : x = y :=
  (mk_tells x y 0 0 [] [] hx hy (by rw [h])).1

/-! ### What follows from what was heard -/
inductive Cl (H : Tm → Prop) : Tm → Prop
  | heard {x : Tm} : H x → Cl H x
  | list {s : List UInt8} {n : Int} {l : List Tm} {y : Tm} : Cl H (.mk 3 s n l) → y ∈ l → Cl H y
  | sum {s : List UInt8} {n : Int} {a b : Tm} : Cl H (.mk 5 s n [a, b]) → Cl H b
  | sld {s : List UInt8} {n : Int} {a b : Tm} : Cl H (.mk 4 s n [a, b]) → Cl H a → Cl H b
theorem Cl.vld {H : Tm → Prop} (h : ∀ x, H x → vld 0 x = true) {x : Tm} (hx : Cl H x) : Te.Tt.vld 0 x = true := by
  induction hx with
  | heard hx => exact h _ hx
  | list _ hy ih => exact vld_sub0 ih hy
  | sum _ ih => exact vld_sub0 ih (by simp)
  | sld _ _ ih _ => exact vld_sub0 ih (by simp)
theorem Cl.mono {H H' : Tm → Prop} (h : ∀ x, H x → Cl H' x) {x : Tm} (hx : Cl H x) : Cl H' x := by
  induction hx with
  | heard hx => exact h _ hx
  | list _ hy ih => exact ih.list hy
  | sum _ ih => exact ih.sum
  | sld _ _ ih ih2 => exact ih.sld ih2

/-! ### What a store holds -/
/-- What is known, and what waits: a key with what it opens. -/
structure St where
  kn : List Tm
  wt : List (Tm × Tm)
def St.of (s : St) (k : Tm) : List Tm := (s.wt.filter fun p => decide (p.1 = k)).map (·.2)
def hd1 : List Tm → Tm
  | a :: _ => a
  | [] => .mk 0 [] 0 []
def hd2 : List Tm → Tm
  | _ :: b :: _ => b
  | _ => .mk 0 [] 0 []
/-- A term that is heard, and was not known. -/
def nw (s : St) : Tm → St × List Tm
  | .mk k t n l =>
    if k = 2 then (⟨.mk k t n l :: s.kn, s.wt.filter fun p => !decide (p.1 = .mk k t n l)⟩, s.of (.mk k t n l))
    else if k = 3 then (⟨.mk k t n l :: s.kn, s.wt⟩, l)
    else if k = 4 then if hd1 l ∈ s.kn then (⟨.mk k t n l :: s.kn, s.wt⟩, [hd2 l]) else (⟨.mk k t n l :: s.kn, s.wt ++ [(hd1 l, hd2 l)]⟩, [])
    else if k = 5 then (⟨.mk k t n l :: s.kn, s.wt⟩, l.drop 1)
    else (⟨.mk k t n l :: s.kn, s.wt⟩, [])
def hr (s : St) (x : Tm) : St × List Tm := if x ∈ s.kn then (s, []) else nw s x

/-- A store that has heard H, but for what is still to be heard. -/
structure Inv (H : Tm → Prop) (s : St) (q : List Tm) : Prop where
  nd : s.kn.Nodup
  ok : ∀ x ∈ s.kn, vld 0 x = true
  okq : ∀ x ∈ q, vld 0 x = true
  okw : ∀ p ∈ s.wt, vld 0 p.1 = true ∧ vld 0 p.2 = true ∧ p.1.k = 2
  cl : ∀ x ∈ s.kn, Cl H x
  clq : ∀ x ∈ q, Cl H x
  clw : ∀ p ∈ s.wt, p.1 ∉ s.kn ∧ ∃ t n, Cl H (.mk 4 t n [p.1, p.2])
  all : ∀ x, H x → x ∈ s.kn ∨ x ∈ q
  list : ∀ t n l, .mk 3 t n l ∈ s.kn → ∀ y ∈ l, y ∈ s.kn ∨ y ∈ q
  sum : ∀ t n a b, .mk 5 t n [a, b] ∈ s.kn → b ∈ s.kn ∨ b ∈ q
  sld : ∀ t n a b, .mk 4 t n [a, b] ∈ s.kn → (b ∈ s.kn ∨ b ∈ q) ∨ (a ∉ s.kn ∧ (a, b) ∈ s.wt)

theorem Inv.start : Inv (fun _ => False) ⟨[], []⟩ [] := by
  constructor <;> simp
/-- All that follows is known, and nothing else. -/
theorem Inv.known {H : Tm → Prop} {s : St} (h : Inv H s []) (x : Tm) : x ∈ s.kn ↔ Cl H x := by
  refine ⟨h.cl x, fun hx => ?_⟩
  induction hx with
  | heard hx => simpa using h.all _ hx
  | list _ hy ih => simpa using h.list _ _ _ ih _ hy
  | sum _ ih => simpa using h.sum _ _ _ _ ih
  | sld _ _ ih ih2 =>
    rcases h.sld _ _ _ _ ih with h1 | h1
    · simpa using h1
    · exact absurd ih2 h1.1
/-- One more is to be heard. -/
theorem Inv.hear {H : Tm → Prop} {s : St} {q : List Tm} (h : Inv H s q) {x : Tm} (hx : vld 0 x = true) : Inv (fun y => H y ∨ y = x) s (q ++ [x]) := by
  have hm : ∀ y, Cl H y → Cl (fun y => H y ∨ y = x) y := fun y hy => hy.mono fun z hz => .heard (.inl hz)
  refine ⟨h.nd, h.ok, ?_, h.okw, fun y hy => hm y (h.cl y hy), ?_, ?_, ?_, ?_, ?_, ?_⟩
  · intro y hy
    rcases List.mem_append.1 hy with hy | hy
    · exact h.okq y hy
    · rw [List.mem_singleton.1 hy]; exact hx
  · intro y hy
    rcases List.mem_append.1 hy with hy | hy
    · exact hm y (h.clq y hy)
    · exact .heard (.inr (List.mem_singleton.1 hy))
  · intro p hp
    obtain ⟨h1, t, n, h2⟩ := h.clw p hp
    exact ⟨h1, t, n, hm _ h2⟩
  · intro y hy
    rcases hy with hy | rfl
    · rcases h.all y hy with h1 | h1
      · exact .inl h1
      · exact .inr (List.mem_append_left _ h1)
    · exact .inr (by simp)
  · intro t n l hl y hy
    exact (h.list t n l hl y hy).imp_right (List.mem_append_left _)
  · intro t n a b hl
    exact (h.sum t n a b hl).imp_right (List.mem_append_left _)
  · intro t n a b hl
    exact (h.sld t n a b hl).imp_left (Or.imp_right (List.mem_append_left _))
end Go.Proofs.YtiidooponlbnmaaDoor.Kn
