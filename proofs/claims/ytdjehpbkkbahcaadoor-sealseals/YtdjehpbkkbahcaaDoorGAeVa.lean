/- Bits of ints. -/
import Derived.Test.YtdjehpbkkbahcaaDoorGAeWb
namespace Go.Proofs.YtdjehpbkkbahcaaDoor
open Go.RowKit
theorem i64_smallA (n : Nat) (h : n < 4294967296) : IntKind.i64.wrap (n : Int) = (n : Int) := IntWalk.i64_in _ (by omega)
theorem i64_xorA (a b : Nat) (ha : a < 4294967296) (hb : b < 4294967296) : bits .xor .i64 (a : Int) (b : Int) = ((a ^^^ b : Nat) : Int) := by
  show IntKind.i64.wrap ((BitVec.ofInt 64 (a : Int) ^^^ BitVec.ofInt 64 (b : Int)).toNat : Int) = _
  rw [BitVec.toNat_xor, ofInt_u64 a (by omega), ofInt_u64 b (by omega)]
  exact i64_smallA _ (Nat.xor_lt_two_pow (n := 32) ha hb)
theorem i64_orA (a b : Nat) (ha : a < 4294967296) (hb : b < 4294967296) : bits .or .i64 (a : Int) (b : Int) = ((a ||| b : Nat) : Int) := by
  show IntKind.i64.wrap ((BitVec.ofInt 64 (a : Int) ||| BitVec.ofInt 64 (b : Int)).toNat : Int) = _
  rw [BitVec.toNat_or, ofInt_u64 a (by omega), ofInt_u64 b (by omega)]
  exact i64_smallA _ (Nat.or_lt_two_pow (n := 32) ha hb)
theorem rl_int (b : UInt8) (k : Nat) : (b.toNat * 2 ^ k ||| b.toNat / 2 ^ (8 - k)) % 256 = (Ae.rl b k).toNat := by
  have hb := UInt8.toNat_lt b
  have h1 : b.toNat / 2 ^ (8 - k) < 256 := Nat.lt_of_le_of_lt (Nat.div_le_self _ _) hb
  have h2 : b.toNat * 2 ^ k % 256 < 256 := Nat.mod_lt _ (by decide)
  rw [Ae.rl, UInt8.toNat_ofNat', Nat.mod_eq_of_lt (Nat.or_lt_two_pow (n := 8) h2 h1)]
  have := Nat.or_mod_two_pow (a := b.toNat * 2 ^ k) (b := b.toNat / 2 ^ (8 - k)) (n := 8)
  rw [show 2 ^ 8 = 256 by decide] at this
  rw [this, Nat.mod_eq_of_lt h1]
theorem pow_le (k n : Nat) (h : k ≤ n) : 2 ^ k ≤ 2 ^ n := Nat.pow_le_pow_right (by decide) h
theorem mul_pow_lt (b : UInt8) (k : Nat) (h : k ≤ 8) : b.toNat * 2 ^ k < 65536 := by
  have h1 := UInt8.toNat_lt b
  have h2 := pow_le k 8 h
  have h3 := Nat.mul_le_mul (show b.toNat ≤ 255 by omega) h2
  omega
/-- One turn of a byte, as an int, added to a byte. -/
theorem turn_val (b x : UInt8) (k m : Nat) (hk : k ≤ 8) (hm : m = 8 - k) : bits BinOp.xor IntKind.i64 (x.toNat : Int) ((bits BinOp.or IntKind.i64 (wrap64 ((b.toNat : Int) * 2 ^ k)) ((b.toNat : Int) / 2 ^ m)).tmod 256) = ((x ^^^ Ae.rl b k).toNat : Nat) := by
  subst hm
  have h1 := mul_pow_lt b k hk
  have h2 : b.toNat / 2 ^ (8 - k) < 256 := Nat.lt_of_le_of_lt (Nat.div_le_self _ _) (UInt8.toNat_lt b)
  have e1 : wrap64 ((b.toNat : Int) * 2 ^ k) = ((b.toNat * 2 ^ k : Nat) : Int) := by
    rw [show ((b.toNat : Int) * 2 ^ k) = ((b.toNat * 2 ^ k : Nat) : Int) by simp]
    unfold wrap64
    omega
  have e2 : ((b.toNat : Int) / 2 ^ (8 - k)) = ((b.toNat / 2 ^ (8 - k) : Nat) : Int) := by simp
  rw [e1, e2, i64_orA _ _ (by omega) (by omega)]
  have e3 : (((b.toNat * 2 ^ k ||| b.toNat / 2 ^ (8 - k) : Nat) : Int)).tmod 256 = ((Ae.rl b k).toNat : Nat) := by
    rw [← rl_int b k]
    exact (Int.ofNat_tmod _ 256).symm
  rw [e3, i64_xorA _ _ (by have := UInt8.toNat_lt x; omega) (by have := UInt8.toNat_lt (Ae.rl b k); omega), UInt8.toNat_xor]
end Go.Proofs.YtdjehpbkkbahcaaDoor

/- The reference's Times. -/

namespace Go.Proofs.YtdjehpbkkbahcaaDoor
open Go.RowKit

theorem add_val (n a k : Nat) (hn : n < 32768) (ha : a < 256) (hk : k < 8) : bits BinOp.xor IntKind.i64 (n : Int) (wrap64 ((a : Int) * 2 ^ k)) = ((n ^^^ a * 2 ^ k : Nat) : Int) := by
  have h2 := pow_le k 8 (by omega)
  have h3 := Nat.mul_le_mul (show a ≤ 255 by omega) h2
  have e1 : wrap64 ((a : Int) * 2 ^ k) = ((a * 2 ^ k : Nat) : Int) := by
    rw [show ((a : Int) * 2 ^ k) = ((a * 2 ^ k : Nat) : Int) by simp]
    unfold wrap64
    omega
  rw [e1, i64_xorA _ _ (by omega) (by omega)]
theorem red_val (n k : Nat) (hn : n < 32768) (hk : k ≤ 6) : bits BinOp.xor IntKind.i64 (n : Int) (wrap64 (283 * 2 ^ k)) = ((n ^^^ 283 * 2 ^ k : Nat) : Int) := by
  have h2 := pow_le k 6 hk
  have e1 : wrap64 (283 * 2 ^ k : Int) = ((283 * 2 ^ k : Nat) : Int) := by
    rw [show (283 * 2 ^ k : Int) = ((283 * 2 ^ k : Nat) : Int) by simp]
    unfold wrap64
    omega
  rw [e1, i64_xorA _ _ (by omega) (by omega)]

theorem bit_test (n i : Nat) (q : Bool) (h : (n / 2 ^ i % 2 == 1) = q) : (((n : Int) / 2 ^ i).tmod 2 == 1) = q := by
  rw [show ((n : Int) / 2 ^ i) = ((n / 2 ^ i : Nat) : Int) by simp, show (((n / 2 ^ i : Nat) : Int)).tmod 2 = ((n / 2 ^ i % 2 : Nat) : Int) from (Int.ofNat_tmod _ 2).symm, ← h, Bool.eq_iff_iff, beq_iff_eq, beq_iff_eq]
  omega

set_option maxRecDepth 100000 in
set_option maxHeartbeats 1000000 in
theorem refTimes_any (a b : UInt8) (w : World) :
    Calls Tryd.prog 56 #[.int .u8 (a.toNat : Nat), .int .u8 (b.toNat : Nat)] w fun e w' => e = .returned (.int .u8 ((Ae.tm a b).toNat : Nat)) ∧ w = w' := by
  have HE := Lib.hid (Ae.ref_tm a b)
  have hn0 : Ae.nk a.toNat b.toNat 0 = 0 := rfl
  have HN : Hid (∀ k, Ae.nk a.toNat b.toNat (k + 1) = if b.toNat / 2 ^ k % 2 = 1 then Ae.nk a.toNat b.toNat k ^^^ a.toNat * 2 ^ k else Ae.nk a.toNat b.toNat k) := Lib.hid fun _ => rfl
  have HNL := Lib.hid (Ae.nk_lt a.toNat b.toNat (UInt8.toNat_lt a))
  have ha : a.toNat < 256 := UInt8.toNat_lt _
  have hb : b.toNat < 256 := UInt8.toNat_lt _
  have hr : (Ae.tm a b).toNat < 256 := UInt8.toNat_lt _
  generalize (Ae.tm a b).toNat = r at *
  generalize a.toNat = av at *
  generalize b.toNat = bv at *
  generalize Ae.nk av bv = N at *
  go_enter Tryd.func56, Tryd.ntmps56
  go_wp2
  go_loop [5, 6] (fun v i => ∃ k : Nat, k ≤ 8 ∧ i = .int .i64 (k : Nat) ∧ v = .int .i64 (N k : Nat)) (fun _ i => 8 - (intOf i).toNat)
  case atStart => exact ⟨0, by omega, rfl, by rw [hn0]; rfl⟩
  case round =>
    obtain ⟨k, hk, rfl, rfl⟩ := hrel
    clear hn0
    by_cases hlt : k < 8
    · have HS := Lib.hid (HN.out k)
      have hnl := HNL.out k hk
      generalize N k = n at *
      have HV := Lib.hid (add_val n av k hnl ha hlt)
      by_cases hbit : bv / 2 ^ k % 2 = 1
      · rw [if_pos hbit] at HS
        have hd := bit_test bv k true (by simpa using hbit)
        clear hbit
        go_wp2
        go_round
        case rel => exact ⟨k + 1, by omega, by go_num, by rw [HS.out]; exact congrArg (Value.int IntKind.i64) HV.out⟩
        case measure => simp [intOf]; omega
      · rw [if_neg hbit] at HS
        have hd := bit_test bv k false (by simpa using hbit)
        clear hbit
        go_wp2
        go_round
        case rel => exact ⟨k + 1, by omega, by go_num, by rw [HS.out]⟩
        case measure => simp [intOf]; omega
    · obtain rfl : k = 8 := by omega
      have hnl := HNL.out 8 (Nat.le_refl _)
      clear HN HNL
      generalize N 8 = n0 at *
      have HK0 : Ae.rk n0 0 = n0 := rfl
      have HK : Hid (∀ j, Ae.rk n0 (j + 1) = Ae.rd (Ae.rk n0 j) (14 - j)) := Lib.hid fun _ => rfl
      have HKL := Lib.hid (Ae.rk_lt n0 hnl)
      generalize Ae.rk n0 = K at *
      go_wp2
      go_loop [5, 7] (fun v i => ∃ j : Nat, j ≤ 7 ∧ i = .int .i64 (14 - (j : Int)) ∧ v = .int .i64 (K j : Nat)) (fun _ i => (intOf i).toNat)
      case atStart => exact ⟨0, by omega, rfl, by rw [HK0]⟩
      case round =>
        obtain ⟨j, hj, rfl, rfl⟩ := hrel
        clear HK0
        by_cases hlt7 : j < 7
        · have HS := Lib.hid (HK.out j)
          have hkl := HKL.out j hj
          obtain ⟨i, hi⟩ : ∃ i, i = 14 - j := ⟨_, rfl⟩
          rw [← hi] at HS
          have hii : (14 - (j : Int)) = (i : Nat) := by omega
          rw [hii]
          generalize K j = n at *
          have HV := Lib.hid (red_val n (i - 8) hkl (by omega))
          have hi8 : 8 ≤ i := by omega
          have hi14 : i ≤ 14 := by omega
          have HII := Lib.hid hi
          clear hi hii
          by_cases hbit : n / 2 ^ i % 2 = 1
          · rw [Ae.rd, if_pos hbit] at HS
            have hd := bit_test n i true (by simpa using hbit)
            clear hbit
            go_wp2
            go_round
            case rel => exact ⟨j + 1, by omega, by have := HII.out; congr 1; omega, by rw [HS.out]; exact congrArg (Value.int IntKind.i64) HV.out⟩
            case measure => have := HII.out; simp [intOf]; omega
          · rw [Ae.rd, if_neg hbit] at HS
            have hd := bit_test n i false (by simpa using hbit)
            clear hbit
            go_wp2
            go_round
            case rel => exact ⟨j + 1, by omega, by have := HII.out; congr 1; omega, by rw [HS.out]⟩
            case measure => have := HII.out; simp [intOf]; omega
        · obtain rfl : j = 7 := by omega
          rw [HE.out]
          go_wp2
          go_ret
          exact ⟨ret_byte (by omega), rfl⟩
end Go.Proofs.YtdjehpbkkbahcaaDoor

/- The reference's Swap, Table. -/

namespace Go.Proofs.YtdjehpbkkbahcaaDoor
open Go.RowKit

/-- 99, and a byte turned and added up, k times. -/
def ys (b : UInt8) : Nat → UInt8
  | 0 => 99
  | k + 1 => ys b k ^^^ Ae.rl b k
theorem rl_zero (b : UInt8) : Ae.rl b 0 = b := by
  apply UInt8.toNat_inj.1
  have hb := UInt8.toNat_lt b
  rw [← rl_int b 0, Nat.pow_zero, Nat.mul_one, Nat.sub_zero, show b.toNat / 2 ^ 8 = 0 from Nat.div_eq_of_lt hb, Nat.or_zero, Nat.mod_eq_of_lt hb]
theorem ys_spr (b : UInt8) (k : Nat) : ys b (k + 1) = Ae.sprk b k := by
  induction k with
  | zero => rw [ys, ys, rl_zero, Ae.sprk, Ae.xor_comm]
  | succ k ih => rw [ys, ih, Ae.sprk]
theorem inv_zeroR : Ae.inv 0 = 0 := by decide +kernel
theorem inv_test (a y : UInt8) (hy : y ≠ 0) : (((Ae.tm a y).toNat : Int) == 1) = decide (y.toNat = (Ae.inv a).toNat) := by
  rw [Bool.eq_iff_iff, beq_iff_eq, decide_eq_true_iff]
  constructor
  · intro h
    have h1 : Ae.tm a y = 1 := UInt8.toNat_inj.1 (by
      have : (Ae.tm a y).toNat = 1 := by omega
      rw [this]; rfl)
    rw [← Ae.inv_of h1]
  · intro h
    have h1 := UInt8.toNat_inj.1 h
    have ha : a ≠ 0 := fun e => by rw [e, inv_zeroR] at h1; exact hy h1
    rw [h1, Ae.tm_inv a ha]
    rfl

/-- What is found so far. -/
def found (v i : Nat) : Nat := if v < i then v else 0
theorem found_next {v i : Nat} (h : found v i = 0) (hi : i ≠ v) : found v (i + 1) = 0 := by
  unfold found at *
  split at h
  · rw [h, if_pos (by omega)]
  · rw [if_neg (by omega)]
theorem found_here {v : Nat} : found v (v + 1) = v := if_pos (by omega)
theorem found_done {v i : Nat} (h : found v i ≠ 0) : found v i = v := by
  unfold found at *
  split at h
  · rw [if_pos (by assumption)]
  · exact absurd rfl h

set_option maxRecDepth 100000 in
set_option maxHeartbeats 1000000 in
theorem refSwap_any (a : UInt8) (w : World) :
    Calls Tryd.prog 37 #[.int .u8 (a.toNat : Nat)] w fun e w' => e = .returned (.int .u8 ((Ae.sw a).toNat : Nat)) ∧ Below w.heap.size w w' := by
  have HSW : Hid (Ae.sw a = ys (Ae.inv a) 5) := by rw [Hid, ys_spr, Ae.sw_eq]; rfl
  have HTT := Lib.hid (inv_test a)
  have HT := Lib.hid fun y W => refTimes_any a y W
  generalize Ae.sw a = r at *
  generalize hb : Ae.inv a = b at *
  clear hb
  have hv8 : b.toNat < 256 := UInt8.toNat_lt b
  have h0 : found b.toNat 1 = 0 := by unfold found; split <;> omega
  have HF0 := Lib.hid h0
  clear h0
  go_enter Tryd.func37, Tryd.ntmps37
  go_wp2
  go_loop [3, 4] (fun x i => ∃ k : Nat, 1 ≤ k ∧ k ≤ 256 ∧ i = .int .i64 (k : Nat) ∧ x = .int .i64 (found b.toNat k : Nat)) (fun _ i => 257 - (intOf i).toNat)
  case atStart => exact ⟨1, by omega, by omega, rfl, by rw [HF0.out]; rfl⟩
  case round =>
    obtain ⟨k, hk1, hk, rfl, rfl⟩ := hrel
    clear HF0
    by_cases hgo : k < 256 ∧ found b.toNat k = 0
    · obtain ⟨hlt, hf⟩ := hgo
      obtain ⟨y, hy⟩ : ∃ y : UInt8, k = y.toNat := ⟨UInt8.ofNat k, by rw [UInt8.toNat_ofNat', Nat.mod_eq_of_lt hlt]⟩
      subst hy
      have hy0 : y ≠ 0 := fun e => by rw [e] at hk1; exact absurd hk1 (by decide)
      have htest := HTT.out y hy0
      have HTY := Lib.hid fun W => HT.out y W
      generalize Ae.tm a y = t at *
      by_cases he : y.toNat = b.toNat
      · rw [decide_eq_true he] at htest
        have HNX : Hid (found b.toNat (y.toNat + 1) = y.toNat) := by rw [Hid, he]; exact found_here
        rw [hf]
        clear he hf hy0
        go_wp2_with fail
        refine (HTY.out w).mono ?_
        rintro _ _ ⟨rfl, rfl⟩
        go_wp2
        go_round
        case rel => exact ⟨y.toNat + 1, by omega, by omega, by go_num, by rw [HNX.out]⟩
        case measure => simp [intOf]; omega
      · rw [decide_eq_false he] at htest
        have HNX : Hid (found b.toNat (y.toNat + 1) = 0) := found_next hf he
        rw [hf]
        clear he hf hy0
        go_wp2_with fail
        refine (HTY.out w).mono ?_
        rintro _ _ ⟨rfl, rfl⟩
        go_wp2
        go_round
        case rel => exact ⟨y.toNat + 1, by omega, by omega, by go_num, by rw [HNX.out]; rfl⟩
        case measure => simp [intOf]; omega
    · have hfb : found b.toNat k = b.toNat := by
        by_cases h2 : found b.toNat k = 0
        · have : k = 256 := by omega
          subst this
          exact if_pos hv8
        · exact found_done h2
      have hstop : k < 256 → ((b.toNat : Int) == 0) = false := fun h => by
        rw [hfb] at hgo
        simp; omega
      rw [hfb]
      clear hgo hfb HT HTT
      have HR := Lib.hid fun (x : UInt8) (k : Nat) (h : k ≤ 4) => turn_val b x k (8 - k) (by omega) rfl
      have HN : Hid (∀ k, ys b (k + 1) = ys b k ^^^ Ae.rl b k) := Lib.hid fun _ => rfl
      have h0 : ys b 0 = 99 := rfl
      generalize ys b = Y at *
      generalize Ae.rl b = R at *
      by_cases hlt : k < 256
      · have hz := hstop hlt
        go_wp2
        go_loopw [5, 6] (fun x i wr => ∃ k : Nat, k ≤ 5 ∧ i = .int .i64 (k : Nat) ∧ x = .int .i64 ((Y k).toNat : Nat) ∧ Below w.heap.size w wr) (fun _ i _ => 6 - (intOf i).toNat)
        case atStart => exact ⟨0, by omega, rfl, by rw [h0]; rfl, Below.refl _ _⟩
        case round =>
          obtain ⟨m, hm, rfl, rfl, hbw⟩ := hrel
          clear h0
          by_cases hlt5 : m < 5
          · have HV := Lib.hid (HR.out (Y m) m (by omega))
            rw [← HN.out m] at HV
            go_wp2
            go_quiet (fail)
            go_wp2
            go_roundw
            case rel => exact ⟨m + 1, by omega, by go_num, congrArg (Value.int IntKind.i64) HV.out, hbw.trans ⟨rfl, rfl, rfl, Nat.le_refl _, fun _ _ => rfl⟩⟩
            case measure => simp [intOf]; omega
          · obtain rfl : m = 5 := by omega
            rw [← HSW.out]
            have hr8 : r.toNat < 256 := UInt8.toNat_lt r
            go_wp2
            go_ret
            exact ⟨ret_byte (by omega), hbw⟩
      · obtain rfl : k = 256 := by omega
        clear hstop
        go_wp2
        go_loopw [5, 6] (fun x i wr => ∃ k : Nat, k ≤ 5 ∧ i = .int .i64 (k : Nat) ∧ x = .int .i64 ((Y k).toNat : Nat) ∧ Below w.heap.size w wr) (fun _ i _ => 6 - (intOf i).toNat)
        case atStart => exact ⟨0, by omega, rfl, by rw [h0]; rfl, Below.refl _ _⟩
        case round =>
          obtain ⟨m, hm, rfl, rfl, hbw⟩ := hrel
          clear h0
          by_cases hlt5 : m < 5
          · have HV := Lib.hid (HR.out (Y m) m (by omega))
            rw [← HN.out m] at HV
            go_wp2
            go_quiet (fail)
            go_wp2
            go_roundw
            case rel => exact ⟨m + 1, by omega, by go_num, congrArg (Value.int IntKind.i64) HV.out, hbw.trans ⟨rfl, rfl, rfl, Nat.le_refl _, fun _ _ => rfl⟩⟩
            case measure => simp [intOf]; omega
          · obtain rfl : m = 5 := by omega
            rw [← HSW.out]
            have hr8 : r.toNat < 256 := UInt8.toNat_lt r
            go_wp2
            go_ret
            exact ⟨ret_byte (by omega), hbw⟩

set_option maxRecDepth 100000 in
theorem refSwapN (i : Nat) (w : World) (hi : i < 256) :
    Calls Tryd.prog 37 #[.int .u8 (i : Nat)] w fun e w' => e = .returned (.int .u8 ((Ae.SB.getD i 0).toNat : Nat)) ∧ Below w.heap.size w w' := by
  have := refSwap_any (UInt8.ofNat i) w
  rw [Ae.sw, UInt8.toNat_ofNat', Nat.mod_eq_of_lt hi] at this
  exact this

theorem SB_snoc (i : Nat) (hi : i < 256) : Ae.SB.take (i + 1) = Ae.SB.take i ++ [Ae.SB.getD i 0] := by
  have h : i < Ae.SB.length := by rw [SB_length]; exact hi
  rw [List.take_succ_eq_append_getElem h, List.getD_eq_getElem?_getD, List.getElem?_eq_getElem h]
  rfl
theorem SB_all : Ae.SB.take 256 = Ae.SB := List.take_of_length_le (by rw [SB_length]; exact Nat.le_refl _)

theorem OwnB.below {w w' : World} {base : Nat} {v : Value} {l : List UInt8} (h : OwnB w base v l) (hb : Below w.heap.size w w') : OwnB w' base v l := by
  obtain ⟨h1, h2⟩ := h
  refine ⟨h1, ?_⟩
  rcases h2 with h2 | ⟨g, cap, cur, hv, hbg, hg, x1, x2, x3, ht⟩
  · exact .inl h2
  · exact .inr ⟨g, cap, cur, hv, hbg, by rw [hb.block _ (Array.getElem?_eq_some_iff.1 hg).1]; exact hg, x1, x2, x3, ht⟩

set_option maxRecDepth 100000 in
theorem Table_any (w : World) :
    Calls Tryd.prog 20 #[] w fun e w' => (∃ v, e = .returned v ∧ OwnB w' w.heap.size v Ae.SB) ∧ Below w.heap.size w w' := by
  have HS := Lib.hid refSwapN
  have HSN := Lib.hid SB_snoc
  have HSA := Lib.hid SB_all
  have HSL : Hid (∀ i, (Ae.SB.take i).length ≤ 256) := Lib.hid fun i => by rw [List.length_take, SB_length]; exact Nat.min_le_right _ _
  generalize Ae.SB = S at *
  go_enter Tryd.func20, Tryd.ntmps20
  go_wp2
  go_loopw [1, 2] (fun v i wr => ∃ k : Nat, k ≤ 256 ∧ i = .int .i64 (k : Nat) ∧ OwnB wr w.heap.size v (S.take k) ∧ Below w.heap.size w wr) (fun _ i _ => 256 - (intOf i).toNat)
  case atStart => exact ⟨0, by omega, rfl, ⟨by simp [bvals], .inl ⟨rfl, rfl⟩⟩, Below.refl _ _⟩
  case round =>
    obtain ⟨k, hk, rfl, HO, hb⟩ := hrel
    by_cases hlt : k < 256
    · have HSK := Lib.hid fun W => HS.out k W hlt
      have HNX := Lib.hid (HSN.out k hlt)
      have HLK := Lib.hid (HSL.out k)
      generalize S.getD k 0 = d at *
      go_wp2_with fail
      refine (HSK.out wr).mono ?_
      rintro _ w1 ⟨rfl, hb1⟩
      have HO1 := HO.below hb1
      have b1 := hb.trans (hb1.mono hb.size)
      have hz1 := b1.size
      clear HO hb hb1 HS HSN
      go_wp2_with (at_builtin; refine wpList_appB w1 rfl (.tmp 7) (.tmp 11) rfl w.heap.size _ _ d rfl rfl HO1 (by have := HLK.out; omega) (by omega) ?_)
      intro v2 w2 HO2 hb2
      go_wp2
      go_roundw
      case rel => exact ⟨k + 1, by omega, by go_num, by rw [HNX.out]; exact HO2, b1.trans hb2⟩
      case measure => simp [intOf]; omega
    · obtain rfl : k = 256 := by omega
      rw [HSA.out] at HO
      go_wp2
      go_ret
      exact ⟨⟨_, rfl, HO⟩, hb⟩
end Go.Proofs.YtdjehpbkkbahcaaDoor

