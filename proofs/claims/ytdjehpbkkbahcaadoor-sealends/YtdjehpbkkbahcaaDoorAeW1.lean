/- twice, thrice, RotateLeft8, spread, Times. -/
import Derived.Test.YtdjehpbkkbahcaaDoorShaW8
import Derived.Test.YtdjehpbkkbahcaaDoorAePureC
namespace Go.Proofs.YtdjehpbkkbahcaaDoor
open Go.RowKit

theorem ret_byte {a b : Int} (h : a = b) : Ending.returned (.int .u8 a) = .returned (.int .u8 b) := by rw [h]
theorem xor_byte (a b : UInt8) : bits BinOp.xor IntKind.u8 (a.toNat : Int) (b.toNat : Int) = ((a ^^^ b).toNat : Nat) := by
  rw [u8_xor_nat _ _ (UInt8.toNat_lt _) (UInt8.toNat_lt _), UInt8.toNat_xor]

theorem twice_val (a : Nat) (h : a < 256) : bits BinOp.xor IntKind.u8 ((a : Int) * 2 % 256) ((a : Int) / 128 * 27) = ((Ae.twN a : Nat) : Int) := by
  rw [show (a : Int) * 2 % 256 = ((a * 2 % 256 : Nat) : Int) by omega, show (a : Int) / 128 * 27 = ((a / 128 * 27 : Nat) : Int) by omega, u8_xor_nat _ _ (by omega) (by omega)]
  rfl

set_option maxRecDepth 100000 in
theorem twice_any (a : UInt8) (w : World) :
    Calls Tryd.prog 93 #[.int .u8 (a.toNat : Nat)] w fun e w' => e = .returned (.int .u8 ((Ae.tw a).toNat : Nat)) ∧ w = w' := by
  have h1 : a.toNat < 256 := UInt8.toNat_lt _
  have HV := Lib.hid (twice_val a.toNat h1)
  rw [← Ae.tw_nat] at HV
  go_enter Tryd.func93, Tryd.ntmps93
  go_wp2
  go_ret
  refine ⟨ret_byte ?_, rfl⟩
  rw [← HV.out]

set_option maxRecDepth 100000 in
theorem thrice_any (a : UInt8) (w : World) :
    Calls Tryd.prog 94 #[.int .u8 (a.toNat : Nat)] w fun e w' => e = .returned (.int .u8 ((Ae.th a).toNat : Nat)) ∧ w = w' := by
  have HV := Lib.hid (xor_byte (Ae.tw a) a)
  have HT := Lib.hid (twice_any a w)
  have HE : Hid (Ae.th a = Ae.tw a ^^^ a) := Lib.hid rfl
  generalize Ae.tw a = t at *
  generalize Ae.th a = r at *
  go_enter Tryd.func94, Tryd.ntmps94
  go_wp2_with fail
  refine HT.out.mono ?_
  rintro _ w' ⟨rfl, rfl⟩
  go_wp2
  go_ret
  refine ⟨ret_byte ?_, rfl⟩
  rw [HE.out, ← HV.out]

theorem and7 (n : Nat) (h2 : n ≤ 7) : bits BinOp.and IntKind.u64 (n : Int) 7 = (n : Int) := by
  show bits BinOp.and IntKind.u64 _ ((7 : Nat) : Int) = _
  rw [u64_and_nat _ _ (by omega) (by decide), show n &&& 7 = n from ?_]
  have := Nat.and_two_pow_sub_one_eq_mod n 3
  rw [show 2 ^ 3 - 1 = 7 by decide] at this
  rw [this]
  omega

set_option maxRecDepth 100000 in
theorem rot8_any (x : UInt8) (n : Nat) (w : World) (hk : 1 ≤ n) (hk2 : n ≤ 7) :
    Calls Tryd.prog 95 #[.int .u8 (x.toNat : Nat), .int .i64 (n : Int)] w fun e w' => e = .returned (.int .u8 ((Ae.rl x n).toNat : Nat)) ∧ w = w' := by
  have ha := and7 n hk2
  have hx : x.toNat < 256 := UInt8.toNat_lt _
  have hw : IntKind.u64.wrap (8 - (n : Int)) = ((8 - n : Nat) : Int) := by rw [IntKind.wrap_u64]; omega
  have hv : bits BinOp.or IntKind.u8 ((x.toNat : Int) * 2 ^ n % 256) ((x.toNat : Int) / 2 ^ (8 - n)) = ((Ae.rl x n).toNat : Nat) := by
    have h1 : x.toNat / 2 ^ (8 - n) < 256 := Nat.lt_of_le_of_lt (Nat.div_le_self _ _) hx
    have h2 : x.toNat * 2 ^ n % 256 < 256 := Nat.mod_lt _ (by decide)
    rw [Ae.rl, UInt8.toNat_ofNat', Nat.mod_eq_of_lt (Nat.or_lt_two_pow (n := 8) h2 h1), ← u8_or_nat _ _ h2 h1]
    simp
  have HV := Lib.hid hv
  clear hv
  go_enter Tryd.func95, Tryd.ntmps95
  go_wp2
  go_ret
  refine ⟨ret_byte ?_, rfl⟩
  rw [← HV.out]

set_option maxRecDepth 100000 in
theorem spreadA_any (b : UInt8) (w : World) :
    Calls Tryd.prog 92 #[.int .u8 (b.toNat : Nat)] w fun e w' => e = .returned (.int .u8 ((Ae.spr b).toNat : Nat)) ∧ w = w' := by
  have h0 : bits BinOp.xor IntKind.u8 (b.toNat : Int) 99 = ((Ae.sprk b 0).toNat : Nat) := xor_byte b 99
  have HR := Lib.hid fun n => rot8_any b n w
  have HE : Hid (∀ k, Ae.sprk b (k + 1) = Ae.sprk b k ^^^ Ae.rl b (k + 1)) := Lib.hid fun k => rfl
  have HS : Hid (Ae.sprk b 4 = Ae.spr b) := Lib.hid rfl
  generalize Ae.spr b = sp at *
  generalize Ae.sprk b = sq at *
  generalize Ae.rl b = rb at *
  go_enter Tryd.func92, Tryd.ntmps92
  go_wp2
  go_loop [3, 4] (fun v i => ∃ k : Nat, k ≤ 4 ∧ i = .int .i64 (k + 1 : Nat) ∧ v = .int .u8 ((sq k).toNat : Nat)) (fun _ i => 5 - (intOf i).toNat)
  case atStart => exact ⟨0, by omega, rfl, rfl⟩
  case round =>
    obtain ⟨k, hk, rfl, rfl⟩ := hrel
    clear h0
    by_cases hlt : k < 4
    · have HV := Lib.hid (xor_byte (sq k) (rb (k + 1)))
      have HN := Lib.hid (HE.out k)
      go_wp2_with fail
      refine (HR.out (k + 1) (by omega) (by omega)).mono ?_
      rintro _ w' ⟨rfl, rfl⟩
      go_wp2
      go_round
      case rel => exact ⟨k + 1, by omega, by go_num, by rw [HN.out]; exact congrArg (Value.int IntKind.u8) HV.out⟩
      case measure => simp [intOf]; omega
    · obtain rfl : k = 4 := by omega
      go_wp2
      go_ret
      exact ⟨ret_byte (by rw [← HS.out]), rfl⟩

end Go.Proofs.YtdjehpbkkbahcaaDoor
