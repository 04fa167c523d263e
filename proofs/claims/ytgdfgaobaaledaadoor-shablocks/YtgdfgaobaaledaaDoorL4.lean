/- ShaBlocks' and ShaSums' walks. -/
import Derived.Test.YtgdfgaobaaledaaDoorW11
import Derived.Test.YtgdfgaobaaledaaDoorV11
namespace Go.Proofs.YtgdfgaobaaledaaDoor
open Go.RowKit

set_option maxRecDepth 100000 in
theorem shaSums_long (s : List UInt8) (w : World) (HT : Tabs w) (hs : 600 < s.length) :
    Calls Tryd.prog 3 #[.string ⟨⟨s⟩⟩] w fun e w' => e = .returned (.bool true) ∧ Below w.heap.size w w' := by
  go_enter Tryd.func3, Tryd.ntmps3
  go_wp2_with fail
  refine (works_any w HT).mono ?_
  rintro _ w1 ⟨rfl, hb1⟩
  go_wp2
  all_goals go_ret
  all_goals exact ⟨rfl, hb1⟩

set_option maxRecDepth 100000 in
theorem shaSums_short (s : List UInt8) (w : World) (HT : Tabs w) (hs : s.length ≤ 600) :
    Calls Tryd.prog 3 #[.string ⟨⟨s⟩⟩] w fun e w' => e = .returned (.bool true) ∧ Below w.heap.size w w' := by
  go_enter Tryd.func3, Tryd.ntmps3
  go_wp2_with fail
  refine (works_any w HT).mono ?_
  rintro _ w1 ⟨rfl, hb1⟩
  go_wp2_with fail
  refine (Sum_any s w1 (HT.below hb1) (by omega)).mono ?_
  rintro _ w2 ⟨rfl, hb2⟩
  have b2 := hb1.trans (hb2.mono hb1.size)
  clear hb1 hb2
  go_wp2_with fail
  refine (refSum_any s w2 (by omega)).mono ?_
  rintro _ w3 ⟨rfl, hb3⟩
  have b3 := b2.trans (hb3.mono b2.size)
  generalize Sh.sum s = sm at *
  clear hb3 b2
  go_wp2
  all_goals go_ret
  all_goals exact ⟨rfl, b3⟩

theorem shaSums_walk (s : List UInt8) (w : World) (HT : Tabs w) :
    Calls Tryd.prog 3 #[.string ⟨⟨s⟩⟩] w fun e w' => e = .returned (.bool true) ∧ Below w.heap.size w w' := by
  by_cases h : s.length ≤ 600
  · exact shaSums_short s w HT h
  · exact shaSums_long s w HT (by omega)

/-- Pad of any number: of the program, and of the document. -/
def padI (n : Int) : List UInt8 := if n < 0 then [] else Sh.pad n.toNat
theorem padI_any (n : Int) (w : World) (hn : n ≤ 9223372036854775807) : Calls Tryd.prog 16 #[.int .i64 n] w fun e w' => e = .returned (.string ⟨⟨padI n⟩⟩) ∧ Below w.heap.size w w' := by
  by_cases h : n < 0
  · rw [padI, if_pos h]
    exact (pad_neg n w h).mono fun _ _ ⟨he, hw⟩ => ⟨he, hw ▸ Below.refl _ _⟩
  · obtain ⟨m, rfl⟩ := Int.eq_ofNat_of_zero_le (show 0 ≤ n by omega)
    rw [padI, if_neg h, Int.toNat_natCast]
    exact pad_any m w (by omega)
theorem refPadI_any (n : Int) (w : World) (hn : n ≤ 9223372036854775807) : Calls Tryd.prog 17 #[.int .i64 n] w fun e w' => e = .returned (.string ⟨⟨padI n⟩⟩) ∧ Below w.heap.size w w' := by
  by_cases h : n < 0
  · rw [padI, if_pos h]
    exact (refPad_neg n w h).mono fun _ _ ⟨he, hw⟩ => ⟨he, hw ▸ Below.refl _ _⟩
  · obtain ⟨m, rfl⟩ := Int.eq_ofNat_of_zero_le (show 0 ≤ n by omega)
    rw [padI, if_neg h, Int.toNat_natCast]
    exact refPad_any m w (by omega)

set_option maxRecDepth 100000 in
set_option maxHeartbeats 1000000 in
theorem shaBlocks_walk (st b : List UInt8) (n : Int) (hn : n ≤ 9223372036854775807) (w : World) (HT : Tabs w) :
    Calls Tryd.prog 4 #[.string ⟨⟨st⟩⟩, .string ⟨⟨b⟩⟩, .int .i64 n] w fun e w' => e = .returned (.bool true) ∧ Below w.heap.size w w' := by
  have HP := Lib.hid fun W => padI_any n W hn
  have HRP := Lib.hid fun W => refPadI_any n W hn
  generalize padI n = pd at *
  go_enter Tryd.func4, Tryd.ntmps4
  go_wp2_with fail
  refine (works_any w HT).mono ?_
  rintro _ w1 ⟨rfl, hb1⟩
  go_wp2_with fail
  refine (Block_any st b w1 (HT.below hb1)).mono ?_
  rintro _ w2 ⟨rfl, hb2⟩
  have b2 := hb1.trans (hb2.mono hb1.size)
  clear hb1 hb2
  go_wp2_with fail
  refine (Keys_any w2).mono ?_
  rintro _ w3 ⟨vk, rfl, HK, hb3⟩
  have b3 := b2.trans (hb3.mono b2.size)
  clear hb3 b2
  go_wp2_with fail
  refine (refBlock_any vk st b w3 HK).mono ?_
  rintro _ w4 ⟨rfl, hb4⟩
  have b4 := b3.trans (hb4.mono b3.size)
  clear hb4 b3 HK
  generalize Sh.block st b = bk at *
  go_wp2_with fail
  refine (Start_any w4 (HT.below b4)).mono ?_
  rintro _ w5 ⟨rfl, hb5⟩
  have b5 := b4.trans (hb5.mono b4.size)
  clear hb5 b4
  go_wp2_with fail
  refine (refStart_any w5).mono ?_
  rintro _ w6 ⟨rfl, hb6⟩
  have b6 := b5.trans (hb6.mono b5.size)
  clear hb6 b5
  generalize Sh.txt Sh.start = ts at *
  go_wp2_with fail
  refine (HP.out w6).mono ?_
  rintro _ w7 ⟨rfl, hb7⟩
  have b7 := b6.trans (hb7.mono b6.size)
  clear hb7 b6
  go_wp2_with fail
  refine (HRP.out w7).mono ?_
  rintro _ w8 ⟨rfl, hb8⟩
  have b8 := b7.trans (hb8.mono b7.size)
  clear hb8 b7
  go_wp2
  all_goals go_ret
  all_goals exact ⟨rfl, b8⟩
end Go.Proofs.YtgdfgaobaaledaaDoor
