import Derived.Test.YtjoaajjfmmiaaaaRows
import Derived.Test.YtjoaajjfmmiaaaaShaPureA
import Derived.WalkKit
import Derived.Below
import Derived.BigQuiet
import Derived.Deep.QuietTactic
import Derived.Lib.Hide
import Derived.IntWalk
namespace Go.Proofs.Ytjoaajjfmmiaaaa
open Go.RowKit

theorem and31 (n : Nat) (h1 : 1 ≤ n) (h2 : n ≤ 31) : bits BinOp.and IntKind.u64 (IntKind.u64.wrap (-(n : Int))) 31 = ((32 - n : Nat) : Int) := by
  rw [IntKind.wrap_u64, show (-(n : Int)) % 18446744073709551616 = ((18446744073709551616 - n : Nat) : Int) by omega]
  show bits BinOp.and IntKind.u64 _ ((31 : Nat) : Int) = _
  rw [u64_and_nat _ _ (by omega) (by decide), nat_mask5]
  omega

theorem ret_u32 {a b : Int} (h : a = b) : Ending.returned (.int .u32 a) = .returned (.int .u32 b) := by rw [h]

theorem xor_ones (e : Nat) (he : e < 4294967296) : 4294967295 ^^^ e = 4294967295 - e := by
  apply Nat.eq_of_testBit_eq
  intro i
  have h1 := Nat.testBit_two_pow_sub_one 32 i
  have h2 := Nat.testBit_two_pow_sub_succ (x := e) (n := 32) he i
  rw [show 2 ^ 32 - 1 = 4294967295 by decide] at h1
  rw [show 2 ^ 32 - (e + 1) = 4294967295 - e by omega] at h2
  rw [Nat.testBit_xor, h1, h2]
  by_cases hi : i < 32
  · simp [hi]
  · have : e.testBit i = false := Nat.testBit_lt_two_pow (Nat.lt_of_lt_of_le he (by
      have : 2 ^ 32 ≤ 2 ^ i := Nat.pow_le_pow_right (by omega) (by omega)
      simpa using this))
    simp [hi, this]
theorem bits_max (e : Nat) (he : e < 4294967296) : bits BinOp.xor IntKind.u32 IntKind.u32.max (e : Int) = ((4294967295 - e : Nat) : Int) := by
  show bits BinOp.xor IntKind.u32 ((4294967295 : Nat) : Int) (e : Int) = _
  rw [u32_xor_nat _ _ (by decide) he, xor_ones e he]

end Go.Proofs.Ytjoaajjfmmiaaaa
