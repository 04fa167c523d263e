/- The plain mathematics of keys for one use: a number as eight bytes, and the texts. No program. -/
import Derived.Test.YtdjehpbkkbahcaaDoorHmPure
namespace De

/-- A number, going round at 2^64. -/
def un (n : Int) : Nat := (n % 18446744073709551616).toNat
/-- Eight bytes, the greatest first. -/
def num (u : Nat) : List UInt8 := (List.range 8).map fun i => Sh.byt (u / 2 ^ (8 * (7 - i)))
/-- A label, a byte 00, and a number. -/
def lab (l : List UInt8) : List UInt8 := l ++ [0]
def txt (l : List UInt8) (n : Int) : List UInt8 := lab l ++ num (un n)
def key (b : List UInt8) (n : Int) (l : List UInt8) : List UInt8 := Hm.mac b (txt l n)

theorem un_lt (n : Int) : un n < 18446744073709551616 := by unfold un; omega
theorem un_cast (n : Int) : ((un n : Nat) : Int) = n % 18446744073709551616 := by unfold un; omega
theorem un_inj {a b : Int} (ha : -9223372036854775808 ≤ a ∧ a ≤ 9223372036854775807) (hb : -9223372036854775808 ≤ b ∧ b ≤ 9223372036854775807) (h : un a = un b) : a = b := by
  unfold un at h
  omega
theorem num_length (u : Nat) : (num u).length = 8 := by simp [num]
theorem lab_length (l : List UInt8) : (lab l).length = l.length + 1 := by simp [lab]
theorem txt_length (l : List UInt8) (n : Int) : (txt l n).length = l.length + 9 := by rw [txt, List.length_append, num_length, lab_length]
theorem key_length (b : List UInt8) (n : Int) (l : List UInt8) : (key b n l).length = 32 := Hm.mac_length _ _
theorem num_eq (u : Nat) : num u = [Sh.byt (u / 2 ^ 56), Sh.byt (u / 2 ^ 48), Sh.byt (u / 2 ^ 40), Sh.byt (u / 2 ^ 32), Sh.byt (u / 2 ^ 24), Sh.byt (u / 2 ^ 16), Sh.byt (u / 2 ^ 8), Sh.byt (u / 2 ^ 0)] := rfl
theorem byt_inj {a b : Nat} (h : Sh.byt a = Sh.byt b) : a % 256 = b % 256 := by
  have := congrArg UInt8.toNat h
  rw [Sh.byt, Sh.byt, UInt8.toNat_ofNat', UInt8.toNat_ofNat'] at this
  exact this
theorem num_inj {a b : Nat} (ha : a < 18446744073709551616) (hb : b < 18446744073709551616) (h : num a = num b) : a = b := by
  rw [num_eq, num_eq] at h
  simp only [List.cons.injEq, and_true] at h
  obtain ⟨h0, h1, h2, h3, h4, h5, h6, h7⟩ := h
  have h0 := byt_inj h0
  have h1 := byt_inj h1
  have h2 := byt_inj h2
  have h3 := byt_inj h3
  have h4 := byt_inj h4
  have h5 := byt_inj h5
  have h6 := byt_inj h6
  have h7 := byt_inj h7
  simp only [Nat.reducePow] at h0 h1 h2 h3 h4 h5 h6 h7
  omega
/-- Two such texts are the same just if both are. -/
theorem txt_iff (x y : List UInt8) {a b : Int} (ha : -9223372036854775808 ≤ a ∧ a ≤ 9223372036854775807) (hb : -9223372036854775808 ≤ b ∧ b ≤ 9223372036854775807) : txt x a = txt y b ↔ a = b ∧ x = y := by
  constructor
  · intro h
    have hl : x.length = y.length := by
      have := congrArg List.length h
      rw [txt_length, txt_length] at this
      omega
    obtain ⟨h1, h2⟩ := List.append_inj h (by rw [lab_length, lab_length, hl])
    exact ⟨un_inj ha hb (num_inj (un_lt a) (un_lt b) h2), (List.append_inj h1 hl).1⟩
  · rintro ⟨rfl, rfl⟩
    rfl
theorem num_snoc (u k : Nat) (hk : k < 8) : (num u).take (k + 1) = (num u).take k ++ [Sh.byt (u / 2 ^ (8 * (7 - k)))] := by
  have hl := num_length u
  rw [List.take_succ_eq_append_getElem (by omega)]
  simp [num]
end De
