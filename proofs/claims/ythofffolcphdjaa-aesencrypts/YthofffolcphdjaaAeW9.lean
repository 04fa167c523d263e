/- works, of layer 4's laws. -/
import Derived.Test.YthofffolcphdjaaAeW8
namespace Go.Proofs.Ythofffolcphdjaa
open Go.RowKit

theorem Times_ex (w : World) : Calls Try.prog 10 #[.int .u8 87, .int .u8 131] w fun e w' => e = .returned (.int .u8 193) ∧ w = w' := by
  have h := Times_any 87 131 w
  rw [Ae.tm_ex] at h
  exact h
theorem Swap_ex (w : World) : Calls Try.prog 12 #[.int .u8 0] w fun e w' => e = .returned (.int .u8 99) ∧ Below w.heap.size w w' := by
  have h := Swap_any 0 w
  rw [Ae.sw_ex] at h
  exact h
theorem Expand_ex (w : World) : Calls Try.prog 17 #[.string ⟨#[0, 1, 2, 3, 4, 5, 6, 7, 8, 9, 10, 11, 12, 13, 14, 15]⟩] w fun e w' => e = .returned (.string ⟨⟨Ae.ex [0, 1, 2, 3, 4, 5, 6, 7, 8, 9, 10, 11, 12, 13, 14, 15]⟩⟩) ∧ Below w.heap.size w w' :=
  Expand_yes [0, 1, 2, 3, 4, 5, 6, 7, 8, 9, 10, 11, 12, 13, 14, 15] w rfl

set_option maxRecDepth 100000 in
theorem worksA_any (w : World) :
    Calls Try.prog 9 #[] w fun e w' => e = .returned (.bool true) ∧ Below w.heap.size w w' := by
  have hkl : (Ae.ex [0, 1, 2, 3, 4, 5, 6, 7, 8, 9, 10, 11, 12, 13, 14, 15]).length = 176 := Ae.ex_length _ rfl
  have HX := Lib.hid fun w => Expand_ex w
  generalize Ae.ex [0, 1, 2, 3, 4, 5, 6, 7, 8, 9, 10, 11, 12, 13, 14, 15] = ka at *
  have hk2 : ((ka.length : Int) == 176) = true := by rw [hkl]; rfl
  clear hkl
  go_enter Try.func9, Try.ntmps9
  go_wp2_with fail
  refine (Encrypt_ex w).mono ?_
  rintro _ w1 ⟨rfl, b1⟩
  go_wp2_with fail
  refine (Times_ex w1).mono ?_
  rintro _ _ ⟨rfl, rfl⟩
  go_wp2_with fail
  refine (Swap_ex w1).mono ?_
  rintro _ w2 ⟨rfl, hb2⟩
  have b2 := b1.trans (hb2.mono b1.size)
  clear hb2 b1
  go_wp2_with fail
  refine (HX.out w2).mono ?_
  rintro _ w3 ⟨rfl, hb3⟩
  have b3 := b2.trans (hb3.mono b2.size)
  clear hb3 b2 HX
  go_wp2
  go_ret
  exact ⟨rfl, b3⟩
end Go.Proofs.Ythofffolcphdjaa
