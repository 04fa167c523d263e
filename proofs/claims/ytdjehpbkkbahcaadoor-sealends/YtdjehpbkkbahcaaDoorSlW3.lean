/- works (of legatelaw07), by what the calls answer. -/
import Derived.Test.YtdjehpbkkbahcaaDoorSlW1
namespace Go.Proofs.YtdjehpbkkbahcaaDoor
open Go.RowKit

set_option maxRecDepth 100000 in
set_option maxHeartbeats 1000000 in
theorem worksS_by (s m : List UInt8) (w : World) (HT : Tabs w) (hs : s.length = 44)
    (H1 : Hid (∀ w, Tabs w → Calls Tryd.prog 10 #[.string ⟨#[107]⟩, .int .i64 1, .string ⟨#[48, 49, 50, 51, 52, 53, 54, 55, 56, 57, 97, 98]⟩, .string ⟨#[]⟩] w fun e w' => e = .returned (.tuple #[.string ⟨⟨s⟩⟩, .int .i64 0]) ∧ Below w.heap.size w w'))
    (H2 : Hid (∀ w, Tabs w → Calls Tryd.prog 12 #[.string ⟨#[107]⟩, .int .i64 1, .string ⟨⟨s⟩⟩] w fun e w' => e = .returned (.tuple #[.string ⟨#[]⟩, .int .i64 0]) ∧ Below w.heap.size w w'))
    (H3 : Hid (∀ w, Tabs w → Calls Tryd.prog 12 #[.string ⟨#[107]⟩, .int .i64 1, .string ⟨#[120]⟩] w fun e w' => e = .returned (.tuple #[.string ⟨#[]⟩, .int .i64 10]) ∧ Below w.heap.size w w'))
    (H4 : Hid (∀ w, Tabs w → Calls Tryd.prog 15 #[.string ⟨#[107]⟩, .int .i64 1, .string ⟨#[97]⟩] w fun e w' => e = .returned (.string ⟨⟨m⟩⟩) ∧ Below w.heap.size w w'))
    (H5 : Hid (∀ w, Tabs w → Calls Tryd.prog 16 #[.string ⟨#[107]⟩, .int .i64 1, .string ⟨#[97]⟩, .string ⟨⟨m⟩⟩] w fun e w' => e = .returned (.int .i64 0) ∧ Below w.heap.size w w')) :
    Calls Tryd.prog 8 #[] w fun e w' => e = .returned (.bool true) ∧ Below w.heap.size w w' := by
  have e1 := (len_true hs).2.2.1
  simp only [Int.cast_ofNat_Int] at e1
  clear hs
  go_enter Tryd.func8, Tryd.ntmps8
  go_wp2_with fail
  refine (H1.out w HT).mono ?_
  rintro _ w1 ⟨rfl, b1⟩
  go_wp2_with fail
  refine (H2.out w1 (HT.below b1)).mono ?_
  rintro _ w2 ⟨rfl, hb2⟩
  have b2 := b1.trans (hb2.mono b1.size)
  clear hb2 b1
  go_wp2_with fail
  refine (H3.out w2 (HT.below b2)).mono ?_
  rintro _ w3 ⟨rfl, hb3⟩
  have b3 := b2.trans (hb3.mono b2.size)
  clear hb3 b2
  go_wp2_with fail
  refine (H4.out w3 (HT.below b3)).mono ?_
  rintro _ w4 ⟨rfl, hb4⟩
  have b4 := b3.trans (hb4.mono b3.size)
  clear hb4 b3
  go_wp2_with fail
  refine (H5.out w4 (HT.below b4)).mono ?_
  rintro _ w5 ⟨rfl, hb5⟩
  have b5 := b4.trans (hb5.mono b4.size)
  clear hb5 b4
  go_wp2
  go_ret
  exact ⟨rfl, b5⟩
end Go.Proofs.YtdjehpbkkbahcaaDoor
