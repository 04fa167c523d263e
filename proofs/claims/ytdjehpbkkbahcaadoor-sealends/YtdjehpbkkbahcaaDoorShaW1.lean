import Derived.Test.YtdjehpbkkbahcaaDoorRows
import Derived.Test.YtdjehpbkkbahcaaDoorShaPureA
import Derived.WalkKit
import Derived.Below
import Derived.BigQuiet
import Derived.Deep.QuietTactic
import Derived.Lib.Hide
import Derived.IntWalk
namespace Go.Proofs.YtdjehpbkkbahcaaDoor
open Go.RowKit

theorem and31 (n : Nat) (h1 : 1 ≤ n) (h2 : n ≤ 31) : bits BinOp.and IntKind.u64 (IntKind.u64.wrap (-(n : Int))) 31 = ((32 - n : Nat) : Int) := by
  rw [IntKind.wrap_u64, show (-(n : Int)) % 18446744073709551616 = ((18446744073709551616 - n : Nat) : Int) by omega]
  show bits BinOp.and IntKind.u64 _ ((31 : Nat) : Int) = _
  rw [u64_and_nat _ _ (by omega) (by decide), nat_mask5]
  omega

theorem ret_u32 {a b : Int} (h : a = b) : Ending.returned (.int .u32 a) = .returned (.int .u32 b) := by rw [h]

set_option maxRecDepth 100000 in
theorem rot_any (x n : Nat) (w : World) (hx : x < 4294967296) (hk : 1 ≤ n) (hk2 : n ≤ 31) :
    Calls Tryd.prog 90 #[.int .u32 x, .int .i64 (-(n : Int))] w fun e w' => e = .returned (.int .u32 (Sh.rot x n : Nat)) ∧ w = w' := by
  have ha := and31 n hk hk2
  have h0 : (0 : Int) ≤ ((32 - n : Nat) : Int) := by omega
  have hw : IntKind.u64.wrap (32 - ((32 - n : Nat) : Int)) = (n : Int) := by rw [IntKind.wrap_u64]; omega
  go_enter Tryd.func90, Tryd.ntmps90
  go_wp2
  go_ret
  refine ⟨ret_u32 (?_ : bits BinOp.or IntKind.u32 (↑x * 2 ^ (32 - n) % 4294967296) (↑x / 2 ^ n) = _), rfl⟩
  rw [← Sh.rot_or x n hx (by omega), ← u32_or_nat _ _ (Nat.mod_lt _ (by decide)) (Nat.lt_of_le_of_lt (Nat.div_le_self _ _) hx)]
  simp

theorem xor_ones (e : Nat) (he : e < 4294967296) : 4294967295 ^^^ e = 4294967295 - e := by
  apply Nat.eq_of_testBit_eq
  intro i
  have h1 := Nat.testBit_two_pow_sub_one 32 i
  have h2 := Nat.testBit_two_pow_sub_succ (x := e) (n := 32) he i
  rw [show 2 ^ 32 - 1 = 4294967295 by decide] at h1
  rw [show 2 ^ 32 - (e + 1) = 4294967295 - e by omega] at h2
  rw [Nat.testBit_xor, h1, h2]
  by_cases hi : i < 32
  · simp [hi]
  · have : e.testBit i = false := Nat.testBit_lt_two_pow (Nat.lt_of_lt_of_le he (by
      have : 2 ^ 32 ≤ 2 ^ i := Nat.pow_le_pow_right (by omega) (by omega)
      simpa using this))
    simp [hi, this]
theorem bits_max (e : Nat) (he : e < 4294967296) : bits BinOp.xor IntKind.u32 IntKind.u32.max (e : Int) = ((4294967295 - e : Nat) : Int) := by
  show bits BinOp.xor IntKind.u32 ((4294967295 : Nat) : Int) (e : Int) = _
  rw [u32_xor_nat _ _ (by decide) he, xor_ones e he]

set_option maxRecDepth 100000 in
theorem choice_any (e f g : Nat)  (w : World) (he : e < 4294967296) (hf : f < 4294967296) (hg : g < 4294967296) :
    Calls Tryd.prog 71 #[.int .u32 e, .int .u32 f, .int .u32 g] w fun e' w' => e' = .returned (.int .u32 (Sh.ch e f g : Nat)) ∧ w = w' := by
  have h2 := bits_max e he
  have hs : IntKind.u32.signed = false := rfl
  go_enter Tryd.func71, Tryd.ntmps71
  go_wp2
  go_ret
  refine ⟨ret_u32 (?_ : bits BinOp.xor IntKind.u32 (bits BinOp.and IntKind.u32 ↑e ↑f) (bits BinOp.and IntKind.u32 ↑(4294967295 - e) ↑g) = _), rfl⟩
  rw [u32_and_nat _ _ he hf, u32_and_nat _ _ (by omega) hg, u32_xor_nat _ _ (Sh.and_lt hf) (Sh.and_lt hg)]
  rfl

set_option maxRecDepth 100000 in
theorem majority_any (a b c : Nat)  (w : World) (ha : a < 4294967296) (hb : b < 4294967296) (hc : c < 4294967296) :
    Calls Tryd.prog 73 #[.int .u32 a, .int .u32 b, .int .u32 c] w fun e' w' => e' = .returned (.int .u32 (Sh.ma a b c : Nat)) ∧ w = w' := by
  go_enter Tryd.func73, Tryd.ntmps73
  go_wp2
  go_ret
  refine ⟨ret_u32 (?_ : bits BinOp.xor IntKind.u32 (bits BinOp.xor IntKind.u32 (bits BinOp.and IntKind.u32 ↑a ↑b) (bits BinOp.and IntKind.u32 ↑a ↑c)) (bits BinOp.and IntKind.u32 ↑b ↑c) = _), rfl⟩
  rw [u32_and_nat _ _ ha hb, u32_and_nat _ _ ha hc, u32_and_nat _ _ hb hc, u32_xor_nat _ _ (Sh.and_lt hb) (Sh.and_lt hc), u32_xor_nat _ _ (Sh.xor_lt (Sh.and_lt hb) (Sh.and_lt hc)) (Sh.and_lt hc)]
  rfl

end Go.Proofs.YtdjehpbkkbahcaaDoor
