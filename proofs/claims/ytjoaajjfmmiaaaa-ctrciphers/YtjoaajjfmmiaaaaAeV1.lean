/- The reference's Times. -/
import Derived.Test.YtjoaajjfmmiaaaaAeV0
namespace Go.Proofs.Ytjoaajjfmmiaaaa
open Go.RowKit

theorem add_val (n a k : Nat) (hn : n < 32768) (ha : a < 256) (hk : k < 8) : bits BinOp.xor IntKind.i64 (n : Int) (wrap64 ((a : Int) * 2 ^ k)) = ((n ^^^ a * 2 ^ k : Nat) : Int) := by
  have h2 := pow_le k 8 (by omega)
  have h3 := Nat.mul_le_mul (show a ≤ 255 by omega) h2
  have e1 : wrap64 ((a : Int) * 2 ^ k) = ((a * 2 ^ k : Nat) : Int) := by
    rw [show ((a : Int) * 2 ^ k) = ((a * 2 ^ k : Nat) : Int) by simp]
    unfold wrap64
    omega
  rw [e1, i64_xorA _ _ (by omega) (by omega)]
theorem red_val (n k : Nat) (hn : n < 32768) (hk : k ≤ 6) : bits BinOp.xor IntKind.i64 (n : Int) (wrap64 (283 * 2 ^ k)) = ((n ^^^ 283 * 2 ^ k : Nat) : Int) := by
  have h2 := pow_le k 6 hk
  have e1 : wrap64 (283 * 2 ^ k : Int) = ((283 * 2 ^ k : Nat) : Int) := by
    rw [show (283 * 2 ^ k : Int) = ((283 * 2 ^ k : Nat) : Int) by simp]
    unfold wrap64
    omega
  rw [e1, i64_xorA _ _ (by omega) (by omega)]

theorem bit_test (n i : Nat) (q : Bool) (h : (n / 2 ^ i % 2 == 1) = q) : (((n : Int) / 2 ^ i).tmod 2 == 1) = q := by
  rw [show ((n : Int) / 2 ^ i) = ((n / 2 ^ i : Nat) : Int) by simp, show (((n / 2 ^ i : Nat) : Int)).tmod 2 = ((n / 2 ^ i % 2 : Nat) : Int) from (Int.ofNat_tmod _ 2).symm, ← h, Bool.eq_iff_iff, beq_iff_eq, beq_iff_eq]
  omega

set_option maxRecDepth 100000 in
set_option maxHeartbeats 1000000 in
theorem refTimes_any (a b : UInt8) (w : World) :
    Calls Try.prog 23 #[.int .u8 (a.toNat : Nat), .int .u8 (b.toNat : Nat)] w fun e w' => e = .returned (.int .u8 ((Ae.tm a b).toNat : Nat)) ∧ w = w' := by
  have HE := Lib.hid (Ae.ref_tm a b)
  have hn0 : Ae.nk a.toNat b.toNat 0 = 0 := rfl
  have HN : Hid (∀ k, Ae.nk a.toNat b.toNat (k + 1) = if b.toNat / 2 ^ k % 2 = 1 then Ae.nk a.toNat b.toNat k ^^^ a.toNat * 2 ^ k else Ae.nk a.toNat b.toNat k) := Lib.hid fun _ => rfl
  have HNL := Lib.hid (Ae.nk_lt a.toNat b.toNat (UInt8.toNat_lt a))
  have ha : a.toNat < 256 := UInt8.toNat_lt _
  have hb : b.toNat < 256 := UInt8.toNat_lt _
  have hr : (Ae.tm a b).toNat < 256 := UInt8.toNat_lt _
  generalize (Ae.tm a b).toNat = r at *
  generalize a.toNat = av at *
  generalize b.toNat = bv at *
  generalize Ae.nk av bv = N at *
  go_enter Try.func23, Try.ntmps23
  go_wp2
  go_loop [5, 6] (fun v i => ∃ k : Nat, k ≤ 8 ∧ i = .int .i64 (k : Nat) ∧ v = .int .i64 (N k : Nat)) (fun _ i => 8 - (intOf i).toNat)
  case atStart => exact ⟨0, by omega, rfl, by rw [hn0]; rfl⟩
  case round =>
    obtain ⟨k, hk, rfl, rfl⟩ := hrel
    clear hn0
    by_cases hlt : k < 8
    · have HS := Lib.hid (HN.out k)
      have hnl := HNL.out k hk
      generalize N k = n at *
      have HV := Lib.hid (add_val n av k hnl ha hlt)
      by_cases hbit : bv / 2 ^ k % 2 = 1
      · rw [if_pos hbit] at HS
        have hd := bit_test bv k true (by simpa using hbit)
        clear hbit
        go_wp2
        go_round
        case rel => exact ⟨k + 1, by omega, by go_num, by rw [HS.out]; exact congrArg (Value.int IntKind.i64) HV.out⟩
        case measure => simp [intOf]; omega
      · rw [if_neg hbit] at HS
        have hd := bit_test bv k false (by simpa using hbit)
        clear hbit
        go_wp2
        go_round
        case rel => exact ⟨k + 1, by omega, by go_num, by rw [HS.out]⟩
        case measure => simp [intOf]; omega
    · obtain rfl : k = 8 := by omega
      have hnl := HNL.out 8 (Nat.le_refl _)
      clear HN HNL
      generalize N 8 = n0 at *
      have HK0 : Ae.rk n0 0 = n0 := rfl
      have HK : Hid (∀ j, Ae.rk n0 (j + 1) = Ae.rd (Ae.rk n0 j) (14 - j)) := Lib.hid fun _ => rfl
      have HKL := Lib.hid (Ae.rk_lt n0 hnl)
      generalize Ae.rk n0 = K at *
      go_wp2
      go_loop [5, 7] (fun v i => ∃ j : Nat, j ≤ 7 ∧ i = .int .i64 (14 - (j : Int)) ∧ v = .int .i64 (K j : Nat)) (fun _ i => (intOf i).toNat)
      case atStart => exact ⟨0, by omega, rfl, by rw [HK0]⟩
      case round =>
        obtain ⟨j, hj, rfl, rfl⟩ := hrel
        clear HK0
        by_cases hlt7 : j < 7
        · have HS := Lib.hid (HK.out j)
          have hkl := HKL.out j hj
          obtain ⟨i, hi⟩ : ∃ i, i = 14 - j := ⟨_, rfl⟩
          rw [← hi] at HS
          have hii : (14 - (j : Int)) = (i : Nat) := by omega
          rw [hii]
          generalize K j = n at *
          have HV := Lib.hid (red_val n (i - 8) hkl (by omega))
          have hi8 : 8 ≤ i := by omega
          have hi14 : i ≤ 14 := by omega
          have HII := Lib.hid hi
          clear hi hii
          by_cases hbit : n / 2 ^ i % 2 = 1
          · rw [Ae.rd, if_pos hbit] at HS
            have hd := bit_test n i true (by simpa using hbit)
            clear hbit
            go_wp2
            go_round
            case rel => exact ⟨j + 1, by omega, by have := HII.out; congr 1; omega, by rw [HS.out]; exact congrArg (Value.int IntKind.i64) HV.out⟩
            case measure => have := HII.out; simp [intOf]; omega
          · rw [Ae.rd, if_neg hbit] at HS
            have hd := bit_test n i false (by simpa using hbit)
            clear hbit
            go_wp2
            go_round
            case rel => exact ⟨j + 1, by omega, by have := HII.out; congr 1; omega, by rw [HS.out]⟩
            case measure => have := HII.out; simp [intOf]; omega
        · obtain rfl : j = 7 := by omega
          rw [HE.out]
          go_wp2
          go_ret
          exact ⟨ret_byte (by omega), rfl⟩
end Go.Proofs.Ytjoaajjfmmiaaaa
