/- The field of bytes: plain mathematics. -/
import Derived.Test.YtdjehpbkkbahcaaDoorAePure
namespace Ae

theorem xor_zero (a : UInt8) : a ^^^ 0 = a := by apply UInt8.toNat_inj.1; simp
theorem zero_xor (a : UInt8) : 0 ^^^ a = a := by apply UInt8.toNat_inj.1; simp
theorem xor_self (a : UInt8) : a ^^^ a = 0 := by apply UInt8.toNat_inj.1; simp
theorem xor_comm (a b : UInt8) : a ^^^ b = b ^^^ a := by apply UInt8.toNat_inj.1; simp [Nat.xor_comm]
theorem xor_assoc (a b c : UInt8) : (a ^^^ b) ^^^ c = a ^^^ (b ^^^ c) := by apply UInt8.toNat_inj.1; simp [Nat.xor_assoc]
theorem xor_left_comm (a b c : UInt8) : a ^^^ (b ^^^ c) = b ^^^ (a ^^^ c) := by rw [← xor_assoc, xor_comm a b, xor_assoc]
theorem xor_cancel (a b : UInt8) : a ^^^ (a ^^^ b) = b := by rw [← xor_assoc, xor_self, zero_xor]
theorem xor_inj_left {a b c : UInt8} (h : a ^^^ b = a ^^^ c) : b = c := by
  have := congrArg (a ^^^ ·) h
  simpa only [xor_cancel] using this
theorem xor_inj_right {a b c : UInt8} (h : b ^^^ a = c ^^^ a) : b = c := by
  rw [xor_comm b, xor_comm c] at h
  exact xor_inj_left h

theorem bit_xor (m n i : Nat) : (m ^^^ n) / 2 ^ i % 2 = (m / 2 ^ i % 2 + n / 2 ^ i % 2) % 2 := by
  have h := Nat.testBit_xor m n i
  simp only [Nat.testBit_eq_decide_div_mod_eq] at h
  rcases Nat.mod_two_eq_zero_or_one (m / 2 ^ i) with h1 | h1 <;> rcases Nat.mod_two_eq_zero_or_one (n / 2 ^ i) with h2 | h2 <;> rcases Nat.mod_two_eq_zero_or_one ((m ^^^ n) / 2 ^ i) with h3 | h3 <;> simp_all

theorem sel_xor_l (b c : UInt8) (i : Nat) (x : UInt8) : sel (b ^^^ c) i x = sel b i x ^^^ sel c i x := by
  unfold sel
  rw [UInt8.toNat_xor, bit_xor]
  rcases Nat.mod_two_eq_zero_or_one (b.toNat / 2 ^ i) with h1 | h1 <;> rcases Nat.mod_two_eq_zero_or_one (c.toNat / 2 ^ i) with h2 | h2 <;> rw [h1, h2]
  · exact (xor_zero 0).symm
  · exact (zero_xor x).symm
  · exact (xor_zero x).symm
  · exact (xor_self x).symm
theorem sel_xor_r (b : UInt8) (i : Nat) (x y : UInt8) : sel b i (x ^^^ y) = sel b i x ^^^ sel b i y := by
  unfold sel
  split
  · rfl
  · exact (xor_zero 0).symm
theorem xor4 (a b c d : UInt8) : (a ^^^ b) ^^^ (c ^^^ d) = (a ^^^ c) ^^^ (b ^^^ d) := by
  rw [xor_assoc, xor_assoc, xor_left_comm b c d]
theorem twi_xor (k : Nat) (a b : UInt8) : twi k (a ^^^ b) = twi k a ^^^ twi k b := by
  induction k with
  | zero => rfl
  | succ k ih => rw [twi, twi, twi, ih, tw_xor]
theorem tmk_xor_r (a b c : UInt8) (k : Nat) : tmk a (b ^^^ c) k = tmk a b k ^^^ tmk a c k := by
  induction k with
  | zero => exact (xor_zero 0).symm
  | succ k ih => rw [tmk, tmk, tmk, ih, sel_xor_l, xor4]
theorem tmk_xor_l (a c b : UInt8) (k : Nat) : tmk (a ^^^ c) b k = tmk a b k ^^^ tmk c b k := by
  induction k with
  | zero => exact (xor_zero 0).symm
  | succ k ih => rw [tmk, tmk, tmk, ih, twi_xor, sel_xor_r, xor4]
theorem tm_xor_r (a b c : UInt8) : tm a (b ^^^ c) = tm a b ^^^ tm a c := tmk_xor_r a b c 8
theorem tm_xor_l (a c b : UInt8) : tm (a ^^^ c) b = tm a b ^^^ tm c b := tmk_xor_l a c b 8

def Lin (f : UInt8 → UInt8) : Prop := ∀ x y, f (x ^^^ y) = f x ^^^ f y
theorem Lin.zero {f : UInt8 → UInt8} (h : Lin f) : f 0 = 0 := by
  have := h 0 0
  rw [xor_self, xor_self] at this
  exact this
theorem Lin.sel {f : UInt8 → UInt8} (h : Lin f) (x : UInt8) (i : Nat) (c : UInt8) : f (sel x i c) = sel x i (f c) := by
  unfold Ae.sel
  split
  · rfl
  · exact h.zero
theorem bits_all : (List.range 256).all (fun n => tm 1 (UInt8.ofNat n) == UInt8.ofNat n) = true := by decide +kernel
theorem tm_one_l (x : UInt8) : tm 1 x = x := by
  have := all_byte (fun x => tm 1 x == x) bits_all x
  exact eq_of_beq this
theorem lin_ext {f g : UInt8 → UInt8} (hf : Lin f) (hg : Lin g) (h : ∀ i, i < 8 → f (twi i 1) = g (twi i 1)) (x : UInt8) : f x = g x := by
  have e : ∀ k, k ≤ 8 → f (tmk 1 x k) = g (tmk 1 x k) := by
    intro k
    induction k with
    | zero => intro _; show f 0 = g 0; rw [hf.zero, hg.zero]
    | succ k ih => intro hk; rw [tmk, hf, hg, ih (by omega), hf.sel, hg.sel, h k (by omega)]
  have := e 8 (Nat.le_refl _)
  rw [show tmk 1 x 8 = x from tm_one_l x] at this
  exact this
theorem lin_tm_r (a : UInt8) : Lin (fun b => tm a b) := fun x y => tm_xor_r a x y
theorem lin_tm_l (b : UInt8) : Lin (fun a => tm a b) := fun x y => tm_xor_l x y b
theorem Lin.comp {f g : UInt8 → UInt8} (hf : Lin f) (hg : Lin g) : Lin (fun x => f (g x)) := fun x y => by
  show f (g (x ^^^ y)) = _
  rw [hg, hf]

theorem comm8 : ∀ i, i < 8 → ∀ j, j < 8 → tm (twi i 1) (twi j 1) = tm (twi j 1) (twi i 1) := by decide +kernel
theorem tm_comm (a b : UInt8) : tm a b = tm b a := by
  refine lin_ext (f := fun b => tm a b) (g := fun b => tm b a) (lin_tm_r a) (lin_tm_l a) (fun j hj => ?_) b
  exact lin_ext (f := fun a => tm a (twi j 1)) (g := fun a => tm (twi j 1) a) (lin_tm_l _) (lin_tm_r _) (fun i hi => comm8 i hi j hj) a
theorem assoc8 : ∀ i, i < 8 → ∀ j, j < 8 → ∀ k, k < 8 → tm (tm (twi i 1) (twi j 1)) (twi k 1) = tm (twi i 1) (tm (twi j 1) (twi k 1)) := by decide +kernel
theorem tm_assoc (a b c : UInt8) : tm (tm a b) c = tm a (tm b c) := by
  refine lin_ext (f := fun c => tm (tm a b) c) (g := fun c => tm a (tm b c)) (lin_tm_r _) ((lin_tm_r a).comp (lin_tm_r b)) (fun k hk => ?_) c
  refine lin_ext (f := fun b => tm (tm a b) (twi k 1)) (g := fun b => tm a (tm b (twi k 1))) ((lin_tm_l _).comp (lin_tm_r a)) ((lin_tm_r a).comp (lin_tm_l _)) (fun j hj => ?_) b
  exact lin_ext (f := fun a => tm (tm a (twi j 1)) (twi k 1)) (g := fun a => tm a (tm (twi j 1) (twi k 1))) ((lin_tm_l _).comp (lin_tm_l _)) (lin_tm_l _) (fun i hi => assoc8 i hi j hj k hk) a
theorem tm_one (a : UInt8) : tm a 1 = a := by rw [tm_comm, tm_one_l]
theorem tm_zero (a : UInt8) : tm a 0 = 0 := (lin_tm_r a).zero
theorem zero_tm (a : UInt8) : tm 0 a = 0 := (lin_tm_l a).zero
theorem tm_inv (a : UInt8) (h : a ≠ 0) : tm a (inv a) = 1 := by
  have := List.all_eq_true.1 inv_one a.toNat (List.mem_range.2 (UInt8.toNat_lt a))
  rw [UInt8.ofNat_toNat] at this
  rcases Bool.or_eq_true _ _ ▸ this with h1 | h1
  · exact absurd (UInt8.toNat_inj.1 (by rw [eq_of_beq h1]; rfl)) h
  · exact eq_of_beq h1
theorem inv_of {a b : UInt8} (h : tm a b = 1) : b = inv a := by
  have ha : a ≠ 0 := fun e => by rw [e, zero_tm] at h; exact absurd h (by decide)
  have h1 := congrArg (tm (inv a)) h
  rw [← tm_assoc, tm_comm (inv a) a, tm_inv a ha, tm_one_l, tm_one] at h1
  exact h1
theorem tm_eq_zero (a b : UInt8) : tm a b = 0 ↔ a = 0 ∨ b = 0 := by
  constructor
  · intro h
    by_cases ha : a = 0
    · exact .inl ha
    · right
      have h1 := congrArg (tm (inv a)) h
      rw [← tm_assoc, tm_comm (inv a) a, tm_inv a ha, tm_one_l, tm_zero] at h1
      exact h1
  · rintro (rfl | rfl)
    · exact zero_tm _
    · exact tm_zero _
theorem isw_sw (a : UInt8) : isw (sw a) = a := eq_of_beq (all_byte (fun a => isw (sw a) == a) sw_back a)
theorem sw_inj {a b : UInt8} (h : sw a = sw b) : a = b := by rw [← isw_sw a, h, isw_sw]
theorem sw_eq (a : UInt8) : sw a = spr (inv a) := eq_of_beq (all_byte (fun a => sw a == spr (inv a)) sw_spr a)
theorem two_all : (List.range 256).all (fun n => tm (UInt8.ofNat n) 2 == tw (UInt8.ofNat n)) = true := by decide +kernel
theorem three_all : (List.range 256).all (fun n => tm (UInt8.ofNat n) 3 == th (UInt8.ofNat n)) = true := by decide +kernel
theorem tm_two (a : UInt8) : tm a 2 = tw a := eq_of_beq (all_byte (fun a => tm a 2 == tw a) two_all a)
theorem tm_three (a : UInt8) : tm a 3 = th a := eq_of_beq (all_byte (fun a => tm a 3 == th a) three_all a)

/-- The reference's product: term by term, then what is left. -/
def nk (a b : Nat) : Nat → Nat
  | 0 => 0
  | k + 1 => if b / 2 ^ k % 2 = 1 then nk a b k ^^^ a * 2 ^ k else nk a b k
def rd (n i : Nat) : Nat := if n / 2 ^ i % 2 = 1 then n ^^^ 283 * 2 ^ (i - 8) else n
/-- Reduced from 14 down, k times. -/
def rk (n : Nat) : Nat → Nat
  | 0 => n
  | k + 1 => rd (rk n k) (14 - k)
theorem rd_xor (m n i : Nat) : rd (m ^^^ n) i = rd m i ^^^ rd n i := by
  unfold rd
  rw [bit_xor]
  rcases Nat.mod_two_eq_zero_or_one (m / 2 ^ i) with h1 | h1 <;> rcases Nat.mod_two_eq_zero_or_one (n / 2 ^ i) with h2 | h2 <;> rw [h1, h2]
  · rfl
  · exact Nat.xor_assoc _ _ _
  · show (m ^^^ n) ^^^ _ = (m ^^^ _) ^^^ n
    rw [Nat.xor_assoc, Nat.xor_comm n, Nat.xor_assoc]
  · show m ^^^ n = (m ^^^ _) ^^^ (n ^^^ _)
    rw [Nat.xor_comm n, Nat.xor_assoc, ← Nat.xor_assoc (283 * 2 ^ (i - 8)), Nat.xor_self, Nat.zero_xor]
theorem rk_xor (m n k : Nat) : rk (m ^^^ n) k = rk m k ^^^ rk n k := by
  induction k with
  | zero => rfl
  | succ k ih => rw [rk, rk, rk, ih, rd_xor]
theorem rk_zero (k : Nat) : rk 0 k = 0 := by
  have := rk_xor 0 0 k
  rw [Nat.xor_self] at this
  rw [this, Nat.xor_self]
theorem rk_all : (List.range 8).all (fun k => (List.range 256).all fun n => Nat.beq (rk (n * 2 ^ k) 7) (twi k (UInt8.ofNat n)).toNat) = true := by decide +kernel
theorem rk_tw (a : UInt8) (k : Nat) (hk : k < 8) : rk (a.toNat * 2 ^ k) 7 = (twi k a).toNat := by
  have h := List.all_eq_true.1 rk_all k (List.mem_range.2 hk)
  have h := List.all_eq_true.1 h a.toNat (List.mem_range.2 (UInt8.toNat_lt a))
  rw [UInt8.ofNat_toNat] at h
  exact Nat.eq_of_beq_eq_true h
theorem rk_nk (a b : UInt8) : ∀ k, k ≤ 8 → rk (nk a.toNat b.toNat k) 7 = (tmk a b k).toNat := by
  intro k
  induction k with
  | zero => intro _; exact rk_zero 7
  | succ k ih =>
    intro hk
    rw [nk, tmk, sel, UInt8.toNat_xor]
    split
    · rw [rk_xor, ih (by omega), rk_tw a k (by omega)]
    · rw [ih (by omega)]; simp
theorem ref_tm (a b : UInt8) : rk (nk a.toNat b.toNat 8) 7 = (tm a b).toNat := rk_nk a b 8 (Nat.le_refl _)
theorem nk_lt (a b : Nat) (ha : a < 256) : ∀ k, k ≤ 8 → nk a b k < 32768 := by
  intro k
  induction k with
  | zero => intro _; show 0 < 32768; decide
  | succ k ih =>
    intro hk
    rw [nk]
    split
    · refine Nat.xor_lt_two_pow (n := 15) (ih (by omega)) ?_
      have : 2 ^ k ≤ 2 ^ 7 := Nat.pow_le_pow_right (by decide) (by omega)
      have := Nat.mul_le_mul (show a ≤ 255 by omega) this
      omega
    · exact ih (by omega)
theorem rk_lt (n : Nat) (hn : n < 32768) : ∀ k, k ≤ 7 → rk n k < 32768 := by
  intro k
  induction k with
  | zero => intro _; exact hn
  | succ k ih =>
    intro hk
    rw [rk, rd]
    split
    · refine Nat.xor_lt_two_pow (n := 15) (ih (by omega)) ?_
      have : 2 ^ (14 - k - 8) ≤ 2 ^ 6 := Nat.pow_le_pow_right (by decide) (by omega)
      omega
    · exact ih (by omega)
end Ae
