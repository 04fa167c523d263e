/- AesField's walk. -/
import Derived.Test.YthofffolcphdjaaAeW9
namespace Go.Proofs.Ythofffolcphdjaa
open Go.RowKit

theorem zero_test (a : UInt8) : ((a.toNat : Int) == 0) = decide (a = 0) := by
  rw [Bool.eq_iff_iff, beq_iff_eq, decide_eq_true_iff]
  constructor
  · intro h
    exact UInt8.toNat_inj.1 (by simpa using h)
  · rintro rfl; rfl
theorem byte_test (a b : UInt8) : ((a.toNat : Int) == (b.toNat : Int)) = decide (a = b) := by
  rw [Bool.eq_iff_iff, beq_iff_eq, decide_eq_true_iff]
  constructor
  · intro h
    exact UInt8.toNat_inj.1 (by omega)
  · rintro rfl; rfl
theorem byte_self (a : UInt8) : ((a.toNat : Int) == (a.toNat : Int)) = true := by simp

set_option maxRecDepth 100000 in
set_option maxHeartbeats 1000000 in
theorem aesField_walk (a b c : UInt8) (w : World) :
    Calls Try.prog 4 #[.int .u8 (a.toNat : Nat), .int .u8 (b.toNat : Nat), .int .u8 (c.toNat : Nat)] w fun e w' => e = .returned (.bool true) ∧ Below w.heap.size w w' := by
  have HBC := xor_byte b c
  have T1 := Lib.hid fun W => Times_any a b W
  have T2 := Lib.hid fun W => Times_any b a W
  have T3 := Lib.hid fun W => Times_any (Ae.tm a b) c W
  have T4 := Lib.hid fun W => Times_any b c W
  have T5 := Lib.hid fun W => Times_any a (Ae.tm b c) W
  have T6 := Lib.hid fun W => Times_any a (b ^^^ c) W
  have T7 := Lib.hid fun W => Times_any a c W
  have T8 : Hid (∀ W, Calls Try.prog 10 #[.int .u8 (a.toNat : Nat), .int .u8 1] W fun e w' => e = .returned (.int .u8 ((Ae.tm a 1).toNat : Nat)) ∧ W = w') := Lib.hid fun W => Times_any a 1 W
  have S1 := Lib.hid fun W => Swap_any a W
  have S2 := Lib.hid fun W => Swap_any b W
  rw [Ae.tm_comm b a] at T2
  rw [Ae.tm_assoc] at T3
  rw [Ae.tm_xor_r] at T6
  rw [Ae.tm_one] at T8
  have HX2 := xor_byte (Ae.tm a b) (Ae.tm a c)
  have hz : ((((Ae.tm a b).toNat : Int) == 0)) = (((a.toNat : Int) == 0) || ((b.toNat : Int) == 0)) := by
    rw [zero_test, zero_test, zero_test, Bool.eq_iff_iff, Bool.or_eq_true, decide_eq_true_iff, decide_eq_true_iff, decide_eq_true_iff]
    exact Ae.tm_eq_zero a b
  have hs : ((((Ae.sw a).toNat : Int) == ((Ae.sw b).toNat : Int))) = ((a.toNat : Int) == (b.toNat : Int)) := by
    rw [byte_test, byte_test, Bool.eq_iff_iff, decide_eq_true_iff, decide_eq_true_iff]
    exact ⟨fun h => Ae.sw_inj h, fun h => by rw [h]⟩
  generalize Ae.sw a = sa at *
  generalize Ae.sw b = sb at *
  generalize Ae.tm a (Ae.tm b c) = abc at *
  generalize Ae.tm a b ^^^ Ae.tm a c = xx at *
  generalize Ae.tm a b = ab at *
  generalize Ae.tm b c = bc at *
  generalize Ae.tm a c = ac at *
  generalize b ^^^ c = bxc at *
  generalize hqa : ((a.toNat : Int) == 0) = qa at *
  generalize hqb : ((b.toNat : Int) == 0) = qb at *
  generalize hqs : ((a.toNat : Int) == (b.toNat : Int)) = qs at *
  go_enter Try.func4, Try.ntmps4
  go_wp2_with fail
  refine (worksA_any w).mono ?_
  rintro _ w1 ⟨rfl, c1⟩
  go_wp2_with fail
  refine (T1.out w1).mono ?_
  rintro _ _ ⟨rfl, rfl⟩
  go_wp2_with fail
  refine (T2.out w1).mono ?_
  rintro _ _ ⟨rfl, rfl⟩
  go_wp2_with fail
  refine (T1.out w1).mono ?_
  rintro _ _ ⟨rfl, rfl⟩
  go_wp2_with fail
  refine (T3.out w1).mono ?_
  rintro _ _ ⟨rfl, rfl⟩
  go_wp2_with fail
  refine (T4.out w1).mono ?_
  rintro _ _ ⟨rfl, rfl⟩
  go_wp2_with fail
  refine (T5.out w1).mono ?_
  rintro _ _ ⟨rfl, rfl⟩
  go_wp2_with fail
  refine (T6.out w1).mono ?_
  rintro _ _ ⟨rfl, rfl⟩
  go_wp2_with fail
  refine (T1.out w1).mono ?_
  rintro _ _ ⟨rfl, rfl⟩
  go_wp2_with fail
  refine (T7.out w1).mono ?_
  rintro _ _ ⟨rfl, rfl⟩
  go_wp2_with fail
  refine (T8.out w1).mono ?_
  rintro _ _ ⟨rfl, rfl⟩
  go_wp2_with fail
  refine (T1.out w1).mono ?_
  rintro _ _ ⟨rfl, rfl⟩
  clear T1 T2 T3 T4 T5 T6 T7 T8
  cases qa
  · simp only [Bool.false_or] at hz
    go_wp2_with fail
    refine (S1.out w1).mono ?_
    rintro _ w2 ⟨rfl, hc2⟩
    have c2 := c1.trans (hc2.mono c1.size)
    clear hc2 c1
    go_wp2_with fail
    refine (S2.out w2).mono ?_
    rintro _ w3 ⟨rfl, hc3⟩
    have c3 := c2.trans (hc3.mono c2.size)
    clear hc3 c2
    go_wp2
    go_ret
    exact ⟨rfl, c3⟩
  · simp only [Bool.true_or] at hz
    go_wp2_with fail
    refine (S1.out w1).mono ?_
    rintro _ w2 ⟨rfl, hc2⟩
    have c2 := c1.trans (hc2.mono c1.size)
    clear hc2 c1
    go_wp2_with fail
    refine (S2.out w2).mono ?_
    rintro _ w3 ⟨rfl, hc3⟩
    have c3 := c2.trans (hc3.mono c2.size)
    clear hc3 c2
    go_wp2
    go_ret
    exact ⟨rfl, c3⟩
end Go.Proofs.Ythofffolcphdjaa
