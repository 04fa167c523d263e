/- AesTimes' walk. -/
import Derived.Test.YthofffolcphdjaaAeV2
namespace Go.Proofs.Ythofffolcphdjaa
open Go.RowKit

set_option maxRecDepth 100000 in
theorem aesTimes_walk (a b : UInt8) (w : World) :
    Calls Try.prog 3 #[.int .u8 (a.toNat : Nat), .int .u8 (b.toNat : Nat)] w fun e w' => e = .returned (.bool true) ∧ Below w.heap.size w w' := by
  have T1 := Lib.hid fun W => Times_any a b W
  have T2 := Lib.hid fun W => refTimes_any a b W
  have S1 := Lib.hid fun W => Swap_any a W
  have S2 := Lib.hid fun W => refSwap_any a W
  generalize Ae.tm a b = t at *
  generalize Ae.sw a = s at *
  go_enter Try.func3, Try.ntmps3
  go_wp2_with fail
  refine (worksA_any w).mono ?_
  rintro _ w1 ⟨rfl, c1⟩
  go_wp2_with fail
  refine (T1.out w1).mono ?_
  rintro _ _ ⟨rfl, rfl⟩
  go_wp2_with fail
  refine (T2.out w1).mono ?_
  rintro _ _ ⟨rfl, rfl⟩
  go_wp2_with fail
  refine (S1.out w1).mono ?_
  rintro _ w2 ⟨rfl, hc2⟩
  have c2 := c1.trans (hc2.mono c1.size)
  clear hc2 c1 S1
  go_wp2_with fail
  refine (S2.out w2).mono ?_
  rintro _ w3 ⟨rfl, hc3⟩
  have c3 := c2.trans (hc3.mono c2.size)
  clear hc3 c2 S2
  go_wp2
  go_ret
  exact ⟨rfl, c3⟩
end Go.Proofs.Ythofffolcphdjaa
