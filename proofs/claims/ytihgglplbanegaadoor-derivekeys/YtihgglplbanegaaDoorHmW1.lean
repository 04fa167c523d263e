/- hmac.Equal. -/
import Derived.Test.YtihgglplbanegaaDoorShaW4
import Derived.Test.YtihgglplbanegaaDoorHmPure
namespace Go.Proofs.YtihgglplbanegaaDoor
open Go.RowKit

/-- What the loop has gathered: nought just where the texts are the same so far. -/
def Odd (a b : List UInt8) (k : Nat) (v : Value) : Prop := ∃ d : Nat, d < 256 ∧ v = .int .u8 (d : Nat) ∧ (d = 0 ↔ a.take k = b.take k)

theorem or_zero (x y : Nat) : x ||| y = 0 ↔ x = 0 ∧ y = 0 := Nat.or_eq_zero_iff
theorem xor_zero (x y : UInt8) : x.toNat ^^^ y.toNat = 0 ↔ x = y := by
  constructor
  · intro h
    apply UInt8.toNat_inj.1
    have := congrArg (· ^^^ y.toNat) h
    simpa [Nat.xor_assoc] using this
  · rintro rfl
    exact Nat.xor_self _

theorem odd_next (a b : List UInt8) (k d : Nat) (ha : k < a.length) (hb : k < b.length) (h : d = 0 ↔ a.take k = b.take k) :
    d ||| ((a[k]'ha).toNat ^^^ (b[k]'hb).toNat) = 0 ↔ a.take (k + 1) = b.take (k + 1) := by
  rw [or_zero, xor_zero, h, take_snoc a k ha, take_snoc b k hb]
  constructor
  · rintro ⟨h1, h2⟩
    rw [h1, h2]
  · intro hh
    have hl : (a.take k).length = (b.take k).length := by simp; omega
    obtain ⟨h1, h2⟩ := List.append_inj hh hl
    exact ⟨h1, by simpa using h2⟩

theorem belowN {B : Nat} {a w : World} (h : Below B a w) (n : Nat) : Below B a (w.drewN n) := h.trans ⟨rfl, rfl, rfl, Nat.le_refl _, fun _ _ => rfl⟩
theorem ret_bool {a b : Bool} (h : a = b) : Ending.returned (.bool a) = .returned (.bool b) := by rw [h]
theorem u8_lt_or {x y : Nat} (hx : x < 256) (hy : y < 256) : x ||| y < 256 := Nat.or_lt_two_pow (n := 8) hx hy
theorem u8_lt_xor {x y : Nat} (hx : x < 256) (hy : y < 256) : x ^^^ y < 256 := Nat.xor_lt_two_pow (n := 8) hx hy
theorem odd_val (d x y : Nat) (hd : d < 256) (hx : x < 256) (hy : y < 256) : bits BinOp.or IntKind.u8 (d : Int) (bits BinOp.xor IntKind.u8 (x : Int) (y : Int)) = ((d ||| (x ^^^ y) : Nat) : Int) := by
  rw [u8_xor_nat _ _ hx hy, u8_or_nat _ _ hd (u8_lt_xor hx hy)]

end Go.Proofs.YtihgglplbanegaaDoor
