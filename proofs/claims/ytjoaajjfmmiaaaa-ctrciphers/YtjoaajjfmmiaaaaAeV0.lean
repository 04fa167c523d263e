/- Bits of ints. -/
import Derived.Test.YtjoaajjfmmiaaaaAeW9
namespace Go.Proofs.Ytjoaajjfmmiaaaa
open Go.RowKit
theorem i64_smallA (n : Nat) (h : n < 4294967296) : IntKind.i64.wrap (n : Int) = (n : Int) := IntWalk.i64_in _ (by omega)
theorem i64_xorA (a b : Nat) (ha : a < 4294967296) (hb : b < 4294967296) : bits .xor .i64 (a : Int) (b : Int) = ((a ^^^ b : Nat) : Int) := by
  show IntKind.i64.wrap ((BitVec.ofInt 64 (a : Int) ^^^ BitVec.ofInt 64 (b : Int)).toNat : Int) = _
  rw [BitVec.toNat_xor, ofInt_u64 a (by omega), ofInt_u64 b (by omega)]
  exact i64_smallA _ (Nat.xor_lt_two_pow (n := 32) ha hb)
theorem i64_orA (a b : Nat) (ha : a < 4294967296) (hb : b < 4294967296) : bits .or .i64 (a : Int) (b : Int) = ((a ||| b : Nat) : Int) := by
  show IntKind.i64.wrap ((BitVec.ofInt 64 (a : Int) ||| BitVec.ofInt 64 (b : Int)).toNat : Int) = _
  rw [BitVec.toNat_or, ofInt_u64 a (by omega), ofInt_u64 b (by omega)]
  exact i64_smallA _ (Nat.or_lt_two_pow (n := 32) ha hb)
theorem rl_int (b : UInt8) (k : Nat) : (b.toNat * 2 ^ k ||| b.toNat / 2 ^ (8 - k)) % 256 = (Ae.rl b k).toNat := by
  have hb := UInt8.toNat_lt b
  have h1 : b.toNat / 2 ^ (8 - k) < 256 := Nat.lt_of_le_of_lt (Nat.div_le_self _ _) hb
  have h2 : b.toNat * 2 ^ k % 256 < 256 := Nat.mod_lt _ (by decide)
  rw [Ae.rl, UInt8.toNat_ofNat', Nat.mod_eq_of_lt (Nat.or_lt_two_pow (n := 8) h2 h1)]
  have := Nat.or_mod_two_pow (a := b.toNat * 2 ^ k) (b := b.toNat / 2 ^ (8 - k)) (n := 8)
  rw [show 2 ^ 8 = 256 by decide] at this
  rw [this, Nat.mod_eq_of_lt h1]
theorem pow_le (k n : Nat) (h : k ≤ n) : 2 ^ k ≤ 2 ^ n := Nat.pow_le_pow_right (by decide) h
theorem mul_pow_lt (b : UInt8) (k : Nat) (h : k ≤ 8) : b.toNat * 2 ^ k < 65536 := by
  have h1 := UInt8.toNat_lt b
  have h2 := pow_le k 8 h
  have h3 := Nat.mul_le_mul (show b.toNat ≤ 255 by omega) h2
  omega
/-- One turn of a byte, as an int, added to a byte. -/
theorem turn_val (b x : UInt8) (k m : Nat) (hk : k ≤ 8) (hm : m = 8 - k) : bits BinOp.xor IntKind.i64 (x.toNat : Int) ((bits BinOp.or IntKind.i64 (wrap64 ((b.toNat : Int) * 2 ^ k)) ((b.toNat : Int) / 2 ^ m)).tmod 256) = ((x ^^^ Ae.rl b k).toNat : Nat) := by
  subst hm
  have h1 := mul_pow_lt b k hk
  have h2 : b.toNat / 2 ^ (8 - k) < 256 := Nat.lt_of_le_of_lt (Nat.div_le_self _ _) (UInt8.toNat_lt b)
  have e1 : wrap64 ((b.toNat : Int) * 2 ^ k) = ((b.toNat * 2 ^ k : Nat) : Int) := by
    rw [show ((b.toNat : Int) * 2 ^ k) = ((b.toNat * 2 ^ k : Nat) : Int) by simp]
    unfold wrap64
    omega
  have e2 : ((b.toNat : Int) / 2 ^ (8 - k)) = ((b.toNat / 2 ^ (8 - k) : Nat) : Int) := by simp
  rw [e1, e2, i64_orA _ _ (by omega) (by omega)]
  have e3 : (((b.toNat * 2 ^ k ||| b.toNat / 2 ^ (8 - k) : Nat) : Int)).tmod 256 = ((Ae.rl b k).toNat : Nat) := by
    rw [← rl_int b k]
    exact (Int.ofNat_tmod _ 256).symm
  rw [e3, i64_xorA _ _ (by have := UInt8.toNat_lt x; omega) (by have := UInt8.toNat_lt (Ae.rl b k); omega), UInt8.toNat_xor]
end Go.Proofs.Ytjoaajjfmmiaaaa
