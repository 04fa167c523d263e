/- AesSwaps' walk. -/
import Derived.Test.YthofffolcphdjaaAeL2
import Derived.Test.YthofffolcphdjaaAeL3
import Derived.Test.YthofffolcphdjaaAeV0
namespace Go.Proofs.Ythofffolcphdjaa
open Go.RowKit

/-- A byte turned and added up, k times. -/
def xs (b : UInt8) : Nat → UInt8
  | 0 => b
  | k + 1 => xs b k ^^^ Ae.rl b (k + 1)
theorem xs_spr (b : UInt8) (k : Nat) : xs b k ^^^ 99 = Ae.sprk b k := by
  induction k with
  | zero => rfl
  | succ k ih => rw [xs, Ae.sprk, ← ih, Ae.xor_assoc, Ae.xor_assoc, Ae.xor_comm (Ae.rl b (k + 1))]
theorem inv_zero : Ae.inv 0 = 0 := by decide +kernel
set_option maxRecDepth 100000 in
set_option maxHeartbeats 1000000 in
theorem aesSwaps_yes (a b : UInt8) (w : World) (h : Ae.tm a b = 1 ∨ (a = 0 ∧ b = 0)) :
    Calls Try.prog 8 #[.int .u8 (a.toNat : Nat), .int .u8 (b.toNat : Nat)] w fun e w' => e = .returned (.bool true) ∧ Below w.heap.size w w' := by
  have hsw : Ae.sw a = xs b 4 ^^^ 99 := by
    rw [xs_spr, Ae.sw_eq]
    rcases h with h | ⟨rfl, rfl⟩
    · rw [← Ae.inv_of h]; rfl
    · rw [inv_zero]; rfl
  have S1 := Lib.hid fun W => Swap_any a W
  have T1 := Lib.hid fun W => Times_any a b W
  rw [hsw] at S1
  have hc : (((Ae.tm a b).toNat : Int) != 1) = true → ((a.toNat : Int) == 0) = true ∧ ((b.toNat : Int) == 0) = true := by
    rcases h with h | ⟨rfl, rfl⟩
    · rw [h]; intro h; exact absurd h (by decide)
    · exact fun _ => ⟨rfl, rfl⟩
  generalize Ae.tm a b = t at *
  have hbn : b.toNat < 256 := UInt8.toNat_lt b
  have HN : Hid (∀ k, xs b (k + 1) = xs b k ^^^ Ae.rl b (k + 1)) := Lib.hid fun _ => rfl
  have h0 : xs b 0 = b := rfl
  have HR := Lib.hid fun (x : UInt8) (k : Nat) (h : k < 4) => turn_val b x (k + 1) (7 - k) (by omega) (by omega)
  generalize xs b = X at *
  generalize Ae.rl b = R at *
  clear h hsw
  go_enter Try.func8, Try.ntmps8
  go_wp2_with fail
  refine (worksA_any w).mono ?_
  rintro _ w1 ⟨rfl, c1⟩
  go_wp2_with fail
  refine (S1.out w1).mono ?_
  rintro _ w2 ⟨rfl, hc2⟩
  have c2 := c1.trans (hc2.mono c1.size)
  clear hc2 c1 S1
  go_wp2_with fail
  refine (T1.out w2).mono ?_
  rintro _ _ ⟨rfl, rfl⟩
  have hend : bits BinOp.xor IntKind.i64 ((X 4).toNat : Int) 99 = ((X 4).toNat ^^^ 99 : Nat) := by
    show bits BinOp.xor IntKind.i64 _ ((99 : Nat) : Int) = _
    exact i64_xorA _ _ (by have := UInt8.toNat_lt (X 4); omega) (by decide)
  have hwr : wrap64 (((X 4).toNat ^^^ 99 : Nat) : Int) = (((X 4).toNat ^^^ 99 : Nat) : Int) := by
    have h1 : (X 4).toNat ^^^ 99 < 256 := Nat.xor_lt_two_pow (n := 8) (UInt8.toNat_lt _) (by decide)
    unfold wrap64
    omega
  by_cases hq : (((t.toNat : Int) != 1) = true)
  · obtain ⟨ha0, hb0⟩ := hc hq
    go_wp2
    go_loopw [7, 8] (fun v i wr => ∃ k : Nat, k ≤ 4 ∧ i = .int .i64 (k + 1 : Nat) ∧ v = .int .i64 ((X k).toNat : Nat) ∧ Below w.heap.size w wr) (fun _ i _ => 5 - (intOf i).toNat)
    case atStart => exact ⟨0, by omega, rfl, by rw [h0], c2⟩
    case round =>
      obtain ⟨k, hk, rfl, rfl, hb⟩ := hrel
      clear h0
      by_cases hlt : k < 4
      · have HV := Lib.hid (HR.out (X k) k hlt)
        rw [← HN.out k] at HV
        go_wp2
        go_quiet (fail)
        go_wp2
        go_roundw
        case rel => exact ⟨k + 1, by omega, by go_num, congrArg (Value.int IntKind.i64) HV.out, belowQ hb _⟩
        case measure => simp [intOf]; omega
      · obtain rfl : k = 4 := by omega
        go_wp2
        go_ret
        exact ⟨rfl, hb⟩
  · have hq2 : ((t.toNat : Int) != 1) = false := by simpa using hq
    clear hc hq
    go_wp2
    go_loopw [7, 8] (fun v i wr => ∃ k : Nat, k ≤ 4 ∧ i = .int .i64 (k + 1 : Nat) ∧ v = .int .i64 ((X k).toNat : Nat) ∧ Below w.heap.size w wr) (fun _ i _ => 5 - (intOf i).toNat)
    case atStart => exact ⟨0, by omega, rfl, by rw [h0], c2⟩
    case round =>
      obtain ⟨k, hk, rfl, rfl, hb⟩ := hrel
      clear h0
      by_cases hlt : k < 4
      · have HV := Lib.hid (HR.out (X k) k hlt)
        rw [← HN.out k] at HV
        go_wp2
        go_quiet (fail)
        go_wp2
        go_roundw
        case rel => exact ⟨k + 1, by omega, by go_num, congrArg (Value.int IntKind.i64) HV.out, belowQ hb _⟩
        case measure => simp [intOf]; omega
      · obtain rfl : k = 4 := by omega
        go_wp2
        go_ret
        exact ⟨rfl, hb⟩

set_option maxRecDepth 100000 in
theorem aesSwaps_no (a b : UInt8) (w : World) (h : ¬ (Ae.tm a b = 1 ∨ (a = 0 ∧ b = 0))) :
    Calls Try.prog 8 #[.int .u8 (a.toNat : Nat), .int .u8 (b.toNat : Nat)] w fun e w' => e = .returned (.bool true) ∧ Below w.heap.size w w' := by
  have S1 := Lib.hid fun W => Swap_any a W
  have T1 := Lib.hid fun W => Times_any a b W
  have ht : (((Ae.tm a b).toNat : Int) != 1) = true := by
    have h1 : Ae.tm a b ≠ 1 := fun e => h (.inl e)
    rw [bne_iff_ne]
    intro e
    exact h1 (UInt8.toNat_inj.1 (by have : (Ae.tm a b).toNat = 1 := by omega
                                    rw [this]; rfl))
  have h2 : ((a.toNat : Int) == 0) = true → ((b.toNat : Int) == 0) = false := by
    rw [zero_test, zero_test]
    intro ha
    exact decide_eq_false fun hb => h (.inr ⟨of_decide_eq_true ha, hb⟩)
  generalize Ae.tm a b = t at *
  generalize Ae.sw a = sa at *
  clear h
  by_cases ha : ((a.toNat : Int) == 0) = true
  · have hb0 := h2 ha
    go_enter Try.func8, Try.ntmps8
    go_wp2_with fail
    refine (worksA_any w).mono ?_
    rintro _ w1 ⟨rfl, c1⟩
    go_wp2_with fail
    refine (S1.out w1).mono ?_
    rintro _ w2 ⟨rfl, hc2⟩
    have c2 := c1.trans (hc2.mono c1.size)
    clear hc2 c1 S1
    go_wp2_with fail
    refine (T1.out w2).mono ?_
    rintro _ _ ⟨rfl, rfl⟩
    go_wp2
    go_ret
    exact ⟨rfl, c2⟩
  · have ha0 : ((a.toNat : Int) == 0) = false := by simpa using ha
    clear h2 ha
    go_enter Try.func8, Try.ntmps8
    go_wp2_with fail
    refine (worksA_any w).mono ?_
    rintro _ w1 ⟨rfl, c1⟩
    go_wp2_with fail
    refine (S1.out w1).mono ?_
    rintro _ w2 ⟨rfl, hc2⟩
    have c2 := c1.trans (hc2.mono c1.size)
    clear hc2 c1 S1
    go_wp2_with fail
    refine (T1.out w2).mono ?_
    rintro _ _ ⟨rfl, rfl⟩
    go_wp2
    go_ret
    exact ⟨rfl, c2⟩

theorem aesSwaps_walk (a b : UInt8) (w : World) :
    Calls Try.prog 8 #[.int .u8 (a.toNat : Nat), .int .u8 (b.toNat : Nat)] w fun e w' => e = .returned (.bool true) ∧ Below w.heap.size w w' := by
  by_cases h : Ae.tm a b = 1 ∨ (a = 0 ∧ b = 0)
  · exact aesSwaps_yes a b w h
  · exact aesSwaps_no a b w h
end Go.Proofs.Ythofffolcphdjaa
