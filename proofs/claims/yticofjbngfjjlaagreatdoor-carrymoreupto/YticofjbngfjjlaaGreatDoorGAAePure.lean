/- AES over lists of bytes: plain mathematics, no program. -/

namespace Ae

/-- A byte times 2. -/
def twN (n : Nat) : Nat := (n * 2 % 256) ^^^ (n / 128 * 27)
def tw (a : UInt8) : UInt8 := UInt8.ofNat (twN a.toNat)
def th (a : UInt8) : UInt8 := tw a ^^^ a
def twi : Nat → UInt8 → UInt8
  | 0, a => a
  | k + 1, a => tw (twi k a)
def sel (b : UInt8) (i : Nat) (x : UInt8) : UInt8 := if b.toNat / 2 ^ i % 2 = 1 then x else 0
def tmk (a b : UInt8) : Nat → UInt8
  | 0 => 0
  | k + 1 => tmk a b k ^^^ sel b k (twi k a)
/-- The product of two bytes. -/
def tm (a b : UInt8) : UInt8 := tmk a b 8

def INV : List UInt8 := [0, 1, 141, 246, 203, 82, 123, 209, 232, 79, 41, 192, 176, 225, 229, 199, 116, 180, 170, 75, 153, 43, 96, 95, 88, 63, 253, 204, 255, 64, 238, 178, 58, 110, 90, 241, 85, 77, 168, 201, 193, 10, 152, 21, 48, 68, 162, 194, 44, 69, 146, 108, 243, 57, 102, 66, 242, 53, 32, 111, 119, 187, 89, 25, 29, 254, 55, 103, 45, 49, 245, 105, 167, 100, 171, 19, 84, 37, 233, 9, 237, 92, 5, 202, 76, 36, 135, 191, 24, 62, 34, 240, 81, 236, 97, 23, 22, 94, 175, 211, 73, 166, 54, 67, 244, 71, 145, 223, 51, 147, 33, 59, 121, 183, 151, 133, 16, 181, 186, 60, 182, 112, 208, 6, 161, 250, 129, 130, 131, 126, 127, 128, 150, 115, 190, 86, 155, 158, 149, 217, 247, 2, 185, 164, 222, 106, 50, 109, 216, 138, 132, 114, 42, 20, 159, 136, 249, 220, 137, 154, 251, 124, 46, 195, 143, 184, 101, 72, 38, 200, 18, 74, 206, 231, 210, 98, 12, 224, 31, 239, 17, 117, 120, 113, 165, 142, 118, 61, 189, 188, 134, 87, 11, 40, 47, 163, 218, 212, 228, 15, 169, 39, 83, 4, 27, 252, 172, 230, 122, 7, 174, 99, 197, 219, 226, 234, 148, 139, 196, 213, 157, 248, 144, 107, 177, 13, 214, 235, 198, 14, 207, 173, 8, 78, 215, 227, 93, 80, 30, 179, 91, 35, 56, 52, 104, 70, 3, 140, 221, 156, 125, 160, 205, 26, 65, 28]
def SB : List UInt8 := [99, 124, 119, 123, 242, 107, 111, 197, 48, 1, 103, 43, 254, 215, 171, 118, 202, 130, 201, 125, 250, 89, 71, 240, 173, 212, 162, 175, 156, 164, 114, 192, 183, 253, 147, 38, 54, 63, 247, 204, 52, 165, 229, 241, 113, 216, 49, 21, 4, 199, 35, 195, 24, 150, 5, 154, 7, 18, 128, 226, 235, 39, 178, 117, 9, 131, 44, 26, 27, 110, 90, 160, 82, 59, 214, 179, 41, 227, 47, 132, 83, 209, 0, 237, 32, 252, 177, 91, 106, 203, 190, 57, 74, 76, 88, 207, 208, 239, 170, 251, 67, 77, 51, 133, 69, 249, 2, 127, 80, 60, 159, 168, 81, 163, 64, 143, 146, 157, 56, 245, 188, 182, 218, 33, 16, 255, 243, 210, 205, 12, 19, 236, 95, 151, 68, 23, 196, 167, 126, 61, 100, 93, 25, 115, 96, 129, 79, 220, 34, 42, 144, 136, 70, 238, 184, 20, 222, 94, 11, 219, 224, 50, 58, 10, 73, 6, 36, 92, 194, 211, 172, 98, 145, 149, 228, 121, 231, 200, 55, 109, 141, 213, 78, 169, 108, 86, 244, 234, 101, 122, 174, 8, 186, 120, 37, 46, 28, 166, 180, 198, 232, 221, 116, 31, 75, 189, 139, 138, 112, 62, 181, 102, 72, 3, 246, 14, 97, 53, 87, 185, 134, 193, 29, 158, 225, 248, 152, 17, 105, 217, 142, 148, 155, 30, 135, 233, 206, 85, 40, 223, 140, 161, 137, 13, 191, 230, 66, 104, 65, 153, 45, 15, 176, 84, 187, 22]
def ISB : List UInt8 := [82, 9, 106, 213, 48, 54, 165, 56, 191, 64, 163, 158, 129, 243, 215, 251, 124, 227, 57, 130, 155, 47, 255, 135, 52, 142, 67, 68, 196, 222, 233, 203, 84, 123, 148, 50, 166, 194, 35, 61, 238, 76, 149, 11, 66, 250, 195, 78, 8, 46, 161, 102, 40, 217, 36, 178, 118, 91, 162, 73, 109, 139, 209, 37, 114, 248, 246, 100, 134, 104, 152, 22, 212, 164, 92, 204, 93, 101, 182, 146, 108, 112, 72, 80, 253, 237, 185, 218, 94, 21, 70, 87, 167, 141, 157, 132, 144, 216, 171, 0, 140, 188, 211, 10, 247, 228, 88, 5, 184, 179, 69, 6, 208, 44, 30, 143, 202, 63, 15, 2, 193, 175, 189, 3, 1, 19, 138, 107, 58, 145, 17, 65, 79, 103, 220, 234, 151, 242, 207, 206, 240, 180, 230, 115, 150, 172, 116, 34, 231, 173, 53, 133, 226, 249, 55, 232, 28, 117, 223, 110, 71, 241, 26, 113, 29, 41, 197, 137, 111, 183, 98, 14, 170, 24, 190, 27, 252, 86, 62, 75, 198, 210, 121, 32, 154, 219, 192, 254, 120, 205, 90, 244, 31, 221, 168, 51, 136, 7, 199, 49, 177, 18, 16, 89, 39, 128, 236, 95, 96, 81, 127, 169, 25, 181, 74, 13, 45, 229, 122, 159, 147, 201, 156, 239, 160, 224, 59, 77, 174, 42, 245, 176, 200, 235, 187, 60, 131, 83, 153, 97, 23, 43, 4, 126, 186, 119, 214, 38, 225, 105, 20, 99, 85, 33, 12, 125]
def inv (a : UInt8) : UInt8 := INV.getD a.toNat 0
/-- A byte swapped. -/
def sw (a : UInt8) : UInt8 := SB.getD a.toNat 0
def isw (a : UInt8) : UInt8 := ISB.getD a.toNat 0

/-- A byte turned left by k places (0 < k < 8). -/
def rl (b : UInt8) (k : Nat) : UInt8 := UInt8.ofNat ((b.toNat * 2 ^ k % 256) ||| (b.toNat / 2 ^ (8 - k)))
def sprk (b : UInt8) : Nat → UInt8
  | 0 => b ^^^ 99
  | k + 1 => sprk b k ^^^ rl b (k + 1)
def spr (b : UInt8) : UInt8 := sprk b 4
def pw : Nat → UInt8
  | 0 => 1
  | k + 1 => th (pw k)
def PW : List UInt8 := (List.range 255).map pw
def TB : Nat → List UInt8
  | 0 => (List.replicate 256 0).set 0 (spr 0)
  | k + 1 => (TB k).set (PW.getD k 0).toNat (spr (PW.getD ((255 - k) % 255) 0))

theorem all_byte (p : UInt8 → Bool) (h : (List.range 256).all (fun n => p (UInt8.ofNat n)) = true) (a : UInt8) : p a = true := by
  have := List.all_eq_true.1 h a.toNat (List.mem_range.2 (UInt8.toNat_lt a))
  simpa using this

theorem twN_lt {n : Nat} (h : n < 256) : twN n < 256 := by
  have h1 : n * 2 % 256 < 2 ^ 8 := Nat.mod_lt _ (by decide)
  have h2 : n / 128 * 27 < 2 ^ 8 := by omega
  exact Nat.xor_lt_two_pow h1 h2
theorem tw_nat (a : UInt8) : (tw a).toNat = twN a.toNat := by
  rw [tw, UInt8.toNat_ofNat', Nat.mod_eq_of_lt (twN_lt (UInt8.toNat_lt a))]

theorem tw_xorN : (List.range 256).all (fun x => (List.range 256).all fun y => Nat.beq (twN (x ^^^ y)) (twN x ^^^ twN y)) = true := by decide +kernel
theorem tw_xor (a b : UInt8) : tw (a ^^^ b) = tw a ^^^ tw b := by
  apply UInt8.toNat_inj.1
  rw [UInt8.toNat_xor, tw_nat, tw_nat, tw_nat, UInt8.toNat_xor]
  have h := List.all_eq_true.1 tw_xorN a.toNat (List.mem_range.2 (UInt8.toNat_lt a))
  have h := List.all_eq_true.1 h b.toNat (List.mem_range.2 (UInt8.toNat_lt b))
  exact Nat.eq_of_beq_eq_true h

theorem TB_SB : TB 255 = SB := by decide +kernel
theorem inv_one : (List.range 256).all (fun n => n == 0 || tm (UInt8.ofNat n) (inv (UInt8.ofNat n)) == 1) = true := by decide +kernel
theorem sw_back : (List.range 256).all (fun n => isw (sw (UInt8.ofNat n)) == UInt8.ofNat n) = true := by decide +kernel
theorem sw_spr : (List.range 256).all (fun n => sw (UInt8.ofNat n) == spr (inv (UInt8.ofNat n))) = true := by decide +kernel
end Ae

/- The field of bytes: plain mathematics. -/

namespace Ae

theorem xor_zero (a : UInt8) : a ^^^ 0 = a := by apply UInt8.toNat_inj.1; simp
theorem zero_xor (a : UInt8) : 0 ^^^ a = a := by apply UInt8.toNat_inj.1; simp
theorem xor_self (a : UInt8) : a ^^^ a = 0 := by apply UInt8.toNat_inj.1; simp
theorem xor_comm (a b : UInt8) : a ^^^ b = b ^^^ a := by apply UInt8.toNat_inj.1; simp [Nat.xor_comm]
theorem xor_assoc (a b c : UInt8) : (a ^^^ b) ^^^ c = a ^^^ (b ^^^ c) := by apply UInt8.toNat_inj.1; simp [Nat.xor_assoc]
theorem xor_left_comm (a b c : UInt8) : a ^^^ (b ^^^ c) = b ^^^ (a ^^^ c) := by rw [← xor_assoc, xor_comm a b, xor_assoc]
theorem xor_cancel (a b : UInt8) : a ^^^ (a ^^^ b) = b := by rw [← xor_assoc, xor_self, zero_xor]
theorem xor_inj_left {a b c : UInt8} (h : a ^^^ b = a ^^^ c) : b = c := by
  have := congrArg (a ^^^ ·) h
  simpa only [xor_cancel] using this
theorem xor_inj_right {a b c : UInt8} (h : b ^^^ a = c ^^^ a) : b = c := by
  rw [xor_comm b, xor_comm c] at h
  exact xor_inj_left h

theorem bit_xor (m n i : Nat) : (m ^^^ n) / 2 ^ i % 2 = (m / 2 ^ i % 2 + n / 2 ^ i % 2) % 2 := by
  have h := Nat.testBit_xor m n i
  simp only [Nat.testBit_eq_decide_div_mod_eq] at h
  rcases Nat.mod_two_eq_zero_or_one (m / 2 ^ i) with h1 | h1 <;> rcases Nat.mod_two_eq_zero_or_one (n / 2 ^ i) with h2 | h2 <;> rcases Nat.mod_two_eq_zero_or_one ((m ^^^ n) / 2 ^ i) with h3 | h3 <;> simp_all

theorem sel_xor_l (b c : UInt8) (i : Nat) (x : UInt8) : sel (b ^^^ c) i x = sel b i x ^^^ sel c i x := by
  unfold sel
  rw [UInt8.toNat_xor, bit_xor]
  rcases Nat.mod_two_eq_zero_or_one (b.toNat / 2 ^ i) with h1 | h1 <;> rcases Nat.mod_two_eq_zero_or_one (c.toNat / 2 ^ i) with h2 | h2 <;> rw [h1, h2]
  · exact (xor_zero 0).symm
  · exact (zero_xor x).symm
  · exact (xor_zero x).symm
  · exact (xor_self x).symm
theorem sel_xor_r (b : UInt8) (i : Nat) (x y : UInt8) : sel b i (x ^^^ y) = sel b i x ^^^ sel b i y := by
  unfold sel
  split
  · rfl
  · exact (xor_zero 0).symm
theorem xor4 (a b c d : UInt8) : (a ^^^ b) ^^^ (c ^^^ d) = (a ^^^ c) ^^^ (b ^^^ d) := by
  rw [xor_assoc, xor_assoc, xor_left_comm b c d]
theorem twi_xor (k : Nat) (a b : UInt8) : twi k (a ^^^ b) = twi k a ^^^ twi k b := by
  induction k with
  | zero => rfl
  | succ k ih => rw [twi, twi, twi, ih, tw_xor]
theorem tmk_xor_r (a b c : UInt8) (k : Nat) : tmk a (b ^^^ c) k = tmk a b k ^^^ tmk a c k := by
  induction k with
  | zero => exact (xor_zero 0).symm
  | succ k ih => rw [tmk, tmk, tmk, ih, sel_xor_l, xor4]
theorem tmk_xor_l (a c b : UInt8) (k : Nat) : tmk (a ^^^ c) b k = tmk a b k ^^^ tmk c b k := by
  induction k with
  | zero => exact (xor_zero 0).symm
  | succ k ih => rw [tmk, tmk, tmk, ih, twi_xor, sel_xor_r, xor4]
theorem tm_xor_r (a b c : UInt8) : tm a (b ^^^ c) = tm a b ^^^ tm a c := tmk_xor_r a b c 8
theorem tm_xor_l (a c b : UInt8) : tm (a ^^^ c) b = tm a b ^^^ tm c b := tmk_xor_l a c b 8

def Lin (f : UInt8 → UInt8) : Prop := ∀ x y, f (x ^^^ y) = f x ^^^ f y
theorem Lin.zero {f : UInt8 → UInt8} (h : Lin f) : f 0 = 0 := by
  have := h 0 0
  rw [xor_self, xor_self] at this
  exact this
theorem Lin.sel {f : UInt8 → UInt8} (h : Lin f) (x : UInt8) (i : Nat) (c : UInt8) : f (sel x i c) = sel x i (f c) := by
  unfold Ae.sel
  split
  · rfl
  · exact h.zero
theorem bits_all : (List.range 256).all (fun n => tm 1 (UInt8.ofNat n) == UInt8.ofNat n) = true := by decide +kernel
theorem tm_one_l (x : UInt8) : tm 1 x = x := by
  have := all_byte (fun x => tm 1 x == x) bits_all x
  exact eq_of_beq this
theorem lin_ext {f g : UInt8 → UInt8} (hf : Lin f) (hg : Lin g) (h : ∀ i, i < 8 → f (twi i 1) = g (twi i 1)) (x : UInt8) : f x = g x := by
  have e : ∀ k, k ≤ 8 → f (tmk 1 x k) = g (tmk 1 x k) := by
    intro k
    induction k with
    | zero => intro _; show f 0 = g 0; rw [hf.zero, hg.zero]
    | succ k ih => intro hk; rw [tmk, hf, hg, ih (by omega), hf.sel, hg.sel, h k (by omega)]
  have := e 8 (Nat.le_refl _)
  rw [show tmk 1 x 8 = x from tm_one_l x] at this
  exact this
theorem lin_tm_r (a : UInt8) : Lin (fun b => tm a b) := fun x y => tm_xor_r a x y
theorem lin_tm_l (b : UInt8) : Lin (fun a => tm a b) := fun x y => tm_xor_l x y b
theorem Lin.comp {f g : UInt8 → UInt8} (hf : Lin f) (hg : Lin g) : Lin (fun x => f (g x)) := fun x y => by
  show f (g (x ^^^ y)) = _
  rw [hg, hf]

theorem comm8 : ∀ i, i < 8 → ∀ j, j < 8 → tm (twi i 1) (twi j 1) = tm (twi j 1) (twi i 1) := by decide +kernel
theorem tm_comm (a b : UInt8) : tm a b = tm b a := by
  refine lin_ext (f := fun b => tm a b) (g := fun b => tm b a) (lin_tm_r a) (lin_tm_l a) (fun j hj => ?_) b
  exact lin_ext (f := fun a => tm a (twi j 1)) (g := fun a => tm (twi j 1) a) (lin_tm_l _) (lin_tm_r _) (fun i hi => comm8 i hi j hj) a
theorem assoc8 : ∀ i, i < 8 → ∀ j, j < 8 → ∀ k, k < 8 → tm (tm (twi i 1) (twi j 1)) (twi k 1) = tm (twi i 1) (tm (twi j 1) (twi k 1)) := by decide +kernel
theorem tm_assoc (a b c : UInt8) : tm (tm a b) c = tm a (tm b c) := by
  refine lin_ext (f := fun c => tm (tm a b) c) (g := fun c => tm a (tm b c)) (lin_tm_r _) ((lin_tm_r a).comp (lin_tm_r b)) (fun k hk => ?_) c
  refine lin_ext (f := fun b => tm (tm a b) (twi k 1)) (g := fun b => tm a (tm b (twi k 1))) ((lin_tm_l _).comp (lin_tm_r a)) ((lin_tm_r a).comp (lin_tm_l _)) (fun j hj => ?_) b
  exact lin_ext (f := fun a => tm (tm a (twi j 1)) (twi k 1)) (g := fun a => tm a (tm (twi j 1) (twi k 1))) ((lin_tm_l _).comp (lin_tm_l _)) (lin_tm_l _) (fun i hi => assoc8 i hi j hj k hk) a
theorem tm_one (a : UInt8) : tm a 1 = a := by rw [tm_comm, tm_one_l]
theorem tm_zero (a : UInt8) : tm a 0 = 0 := (lin_tm_r a).zero
theorem zero_tm (a : UInt8) : tm 0 a = 0 := (lin_tm_l a).zero
theorem tm_inv (a : UInt8) (h : a ≠ 0) : tm a (inv a) = 1 := by
  have := List.all_eq_true.1 inv_one a.toNat (List.mem_range.2 (UInt8.toNat_lt a))
  rw [UInt8.ofNat_toNat] at this
  rcases Bool.or_eq_true _ _ ▸ this with h1 | h1
  · exact absurd (UInt8.toNat_inj.1 (by rw [eq_of_beq h1]; rfl)) h
  · exact eq_of_beq h1
theorem inv_of {a b : UInt8} (h : tm a b = 1) : b = inv a := by
  have ha : a ≠ 0 := fun e => by rw [e, zero_tm] at h; exact absurd h (by decide)
  have h1 := congrArg (tm (inv a)) h
  rw [← tm_assoc, tm_comm (inv a) a, tm_inv a ha, tm_one_l, tm_one] at h1
  exact h1
theorem tm_eq_zero (a b : UInt8) : tm a b = 0 ↔ a = 0 ∨ b = 0 := by
  constructor
  · intro h
    by_cases ha : a = 0
    · exact .inl ha
    · right
      have h1 := congrArg (tm (inv a)) h
      rw [← tm_assoc, tm_comm (inv a) a, tm_inv a ha, tm_one_l, tm_zero] at h1
      exact h1
  · rintro (rfl | rfl)
    · exact zero_tm _
    · exact tm_zero _
theorem isw_sw (a : UInt8) : isw (sw a) = a := eq_of_beq (all_byte (fun a => isw (sw a) == a) sw_back a)
theorem sw_inj {a b : UInt8} (h : sw a = sw b) : a = b := by rw [← isw_sw a, h, isw_sw]
theorem sw_eq (a : UInt8) : sw a = spr (inv a) := eq_of_beq (all_byte (fun a => sw a == spr (inv a)) sw_spr a)
theorem two_all : (List.range 256).all (fun n => tm (UInt8.ofNat n) 2 == tw (UInt8.ofNat n)) = true := by decide +kernel
theorem three_all : (List.range 256).all (fun n => tm (UInt8.ofNat n) 3 == th (UInt8.ofNat n)) = true := by decide +kernel
theorem tm_two (a : UInt8) : tm a 2 = tw a := eq_of_beq (all_byte (fun a => tm a 2 == tw a) two_all a)
theorem tm_three (a : UInt8) : tm a 3 = th a := eq_of_beq (all_byte (fun a => tm a 3 == th a) three_all a)

/-- The reference's product: term by term, then what is left. -/
def nk (a b : Nat) : Nat → Nat
  | 0 => 0
  | k + 1 => if b / 2 ^ k % 2 = 1 then nk a b k ^^^ a * 2 ^ k else nk a b k
def rd (n i : Nat) : Nat := if n / 2 ^ i % 2 = 1 then n ^^^ 283 * 2 ^ (i - 8) else n
/-- Reduced from 14 down, k times. -/
def rk (n : Nat) : Nat → Nat
  | 0 => n
  | k + 1 => rd (rk n k) (14 - k)
theorem rd_xor (m n i : Nat) : rd (m ^^^ n) i = rd m i ^^^ rd n i := by
  unfold rd
  rw [bit_xor]
  rcases Nat.mod_two_eq_zero_or_one (m / 2 ^ i) with h1 | h1 <;> rcases Nat.mod_two_eq_zero_or_one (n / 2 ^ i) with h2 | h2 <;> rw [h1, h2]
  · rfl
  · exact Nat.xor_assoc _ _ _
  · show (m ^^^ n) ^^^ _ = (m ^^^ _) ^^^ n
    rw [Nat.xor_assoc, Nat.xor_comm n, Nat.xor_assoc]
  · show m ^^^ n = (m ^^^ _) ^^^ (n ^^^ _)
    rw [Nat.xor_comm n, Nat.xor_assoc, ← Nat.xor_assoc (283 * 2 ^ (i - 8)), Nat.xor_self, Nat.zero_xor]
theorem rk_xor (m n k : Nat) : rk (m ^^^ n) k = rk m k ^^^ rk n k := by
  induction k with
  | zero => rfl
  | succ k ih => rw [rk, rk, rk, ih, rd_xor]
theorem rk_zero (k : Nat) : rk 0 k = 0 := by
  have := rk_xor 0 0 k
  rw [Nat.xor_self] at this
  rw [this, Nat.xor_self]
theorem rk_all : (List.range 8).all (fun k => (List.range 256).all fun n => Nat.beq (rk (n * 2 ^ k) 7) (twi k (UInt8.ofNat n)).toNat) = true := by decide +kernel
theorem rk_tw (a : UInt8) (k : Nat) (hk : k < 8) : rk (a.toNat * 2 ^ k) 7 = (twi k a).toNat := by
  have h := List.all_eq_true.1 rk_all k (List.mem_range.2 hk)
  have h := List.all_eq_true.1 h a.toNat (List.mem_range.2 (UInt8.toNat_lt a))
  rw [UInt8.ofNat_toNat] at h
  exact Nat.eq_of_beq_eq_true h
theorem rk_nk (a b : UInt8) : ∀ k, k ≤ 8 → rk (nk a.toNat b.toNat k) 7 = (tmk a b k).toNat := by
  intro k
  induction k with
  | zero => intro _; exact rk_zero 7
  | succ k ih =>
    intro hk
    rw [nk, tmk, sel, UInt8.toNat_xor]
    split
    · rw [rk_xor, ih (by omega), rk_tw a k (by omega)]
    · rw [ih (by omega)]; simp
theorem ref_tm (a b : UInt8) : rk (nk a.toNat b.toNat 8) 7 = (tm a b).toNat := rk_nk a b 8 (Nat.le_refl _)
theorem nk_lt (a b : Nat) (ha : a < 256) : ∀ k, k ≤ 8 → nk a b k < 32768 := by
  intro k
  induction k with
  | zero => intro _; show 0 < 32768; decide
  | succ k ih =>
    intro hk
    rw [nk]
    split
    · refine Nat.xor_lt_two_pow (n := 15) (ih (by omega)) ?_
      have : 2 ^ k ≤ 2 ^ 7 := Nat.pow_le_pow_right (by decide) (by omega)
      have := Nat.mul_le_mul (show a ≤ 255 by omega) this
      omega
    · exact ih (by omega)
theorem rk_lt (n : Nat) (hn : n < 32768) : ∀ k, k ≤ 7 → rk n k < 32768 := by
  intro k
  induction k with
  | zero => intro _; exact hn
  | succ k ih =>
    intro hk
    rw [rk, rd]
    split
    · refine Nat.xor_lt_two_pow (n := 15) (ih (by omega)) ?_
      have : 2 ^ (14 - k - 8) ≤ 2 ^ 6 := Nat.pow_le_pow_right (by decide) (by omega)
      omega
    · exact ih (by omega)
end Ae

