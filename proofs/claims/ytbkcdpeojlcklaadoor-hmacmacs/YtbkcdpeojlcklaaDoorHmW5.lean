/- works, of layer 3's laws. -/
import Derived.Test.YtbkcdpeojlcklaaDoorHmW4
namespace Go.Proofs.YtbkcdpeojlcklaaDoor
open Go.RowKit

theorem Equal_yes (w : World) : Calls Tryd.prog 13 #[.string ⟨#[97, 98]⟩, .string ⟨#[97, 98]⟩] w fun e w' => e = .returned (.bool true) ∧ Below w.heap.size w w' := Equal_any [97, 98] [97, 98] w (by decide)
theorem Equal_no1 (w : World) : Calls Tryd.prog 13 #[.string ⟨#[97, 98]⟩, .string ⟨#[97, 99]⟩] w fun e w' => e = .returned (.bool false) ∧ Below w.heap.size w w' := Equal_any [97, 98] [97, 99] w (by decide)
theorem Equal_no2 (w : World) : Calls Tryd.prog 13 #[.string ⟨#[97]⟩, .string ⟨#[97, 98]⟩] w fun e w' => e = .returned (.bool false) ∧ Below w.heap.size w w' := Equal_any [97] [97, 98] w (by decide)
theorem Key_a (w : World) (HT : Tabs w) : Calls Tryd.prog 11 #[.string ⟨#[97]⟩] w fun e w' => e = .returned (.string ⟨⟨Hm.key [97]⟩⟩) ∧ Below w.heap.size w w' := Key_any [97] w HT (by decide)

set_option maxRecDepth 100000 in
set_option maxHeartbeats 2000000 in
theorem works_any (w : World) (HT : Tabs w) :
    Calls Tryd.prog 7 #[] w fun e w' => e = .returned (.bool true) ∧ Below w.heap.size w w' := by
  have hkl : (Hm.key [97]).length = 64 := Hm.key_length _
  have HKA := Lib.hid fun w HT => Key_a w HT
  generalize Hm.key [97] = ka at *
  have hk2 : ((ka.length : Int) == 64) = true := by rw [hkl]; rfl
  clear hkl
  go_enter Tryd.func7, Tryd.ntmps7
  go_wp2_with fail
  refine (Mac_jefe w HT).mono ?_
  rintro _ w1 ⟨rfl, b1⟩
  go_wp2_with fail
  refine (Equal_yes w1).mono ?_
  rintro _ w2 ⟨rfl, hb2⟩
  have b2 := b1.trans (hb2.mono b1.size)
  clear hb2 b1
  go_wp2_with fail
  refine (Equal_no1 w2).mono ?_
  rintro _ w3 ⟨rfl, hb3⟩
  have b3 := b2.trans (hb3.mono b2.size)
  clear hb3 b2
  go_wp2_with fail
  refine (Equal_no2 w3).mono ?_
  rintro _ w4 ⟨rfl, hb4⟩
  have b4 := b3.trans (hb4.mono b3.size)
  clear hb4 b3
  go_wp2_with fail
  refine (HKA.out w4 (HT.below b4)).mono ?_
  rintro _ w5 ⟨rfl, hb5⟩
  have b5 := b4.trans (hb5.mono b4.size)
  clear hb5 b4 HKA
  go_wp2
  go_ret
  exact ⟨rfl, b5⟩
end Go.Proofs.YtbkcdpeojlcklaaDoor
