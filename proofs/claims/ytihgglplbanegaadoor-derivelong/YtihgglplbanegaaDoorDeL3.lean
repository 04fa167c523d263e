/- DeriveLong' walk. -/
import Derived.Test.YtihgglplbanegaaDoorDeV2
import Derived.Test.YtihgglplbanegaaDoorDeL1
import Derived.Test.YtihgglplbanegaaDoorDeW3
namespace Go.Proofs.YtihgglplbanegaaDoor
open Go.RowKit
set_option maxRecDepth 100000 in
theorem deriveLong_no (a k : List UInt8) (n : Int) (w : World) (HT : Tabs w) (HW : Hid WorksIs) (h : 200 < a.length ∨ 200 < k.length) :
    Calls Tryd.prog 4 #[.string ⟨⟨a⟩⟩, .int .i64 n, .string ⟨⟨k⟩⟩] w fun e w' => e = .returned (.bool true) ∧ Below w.heap.size w w' := by
  by_cases h1 : 200 < a.length
  · clear h
    go_enter Tryd.func4, Tryd.ntmps4
    go_wp2_with fail
    refine (HW.out w HT).mono ?_
    rintro _ w1 ⟨rfl, b1⟩
    go_wp2
    all_goals go_ret
    all_goals exact ⟨rfl, b1⟩
  · have g1 : a.length ≤ 200 := by omega
    have h2 : 200 < k.length := by omega
    clear h h1
    go_enter Tryd.func4, Tryd.ntmps4
    go_wp2_with fail
    refine (HW.out w HT).mono ?_
    rintro _ w1 ⟨rfl, b1⟩
    go_wp2
    all_goals go_ret
    all_goals exact ⟨rfl, b1⟩
set_option maxRecDepth 100000 in
set_option maxHeartbeats 4000000 in
theorem deriveLong_yes (a k m1 m2 ts : List UInt8) (n : Int) (w : World) (HT : Tabs w) (HW : Hid WorksIs) (h1 : a.length ≤ 200) (h2 : k.length ≤ 200)
    (HNEW : Hid (∀ w, Calls Tryd.prog 7 #[] w (NewPost ts w)))
    (H0 : Hid (∀ w, Tabs w → Calls Tryd.prog 14 #[.string ⟨⟨a⟩⟩, .int .i64 n, .string ⟨⟨k⟩⟩] w fun e w' => e = .returned (.string ⟨⟨m1⟩⟩) ∧ Below w.heap.size w w'))
    (H1 : Hid (∀ g cap w, KeysAt w g cap → Calls Tryd.prog 15 #[.agg #[.slice (some ⟨g, 0, none⟩) 64 cap, .string ⟨⟨ts⟩⟩], .string ⟨⟨a⟩⟩, .int .i64 n, .string ⟨⟨k⟩⟩] w fun e w' => e = .returned (.string ⟨⟨m1⟩⟩) ∧ Below w.heap.size w w'))
    (H2 : Hid (∀ w, Tabs w → Calls Tryd.prog 16 #[.int .i64 n, .string ⟨⟨k⟩⟩] w fun e w' => e = .returned (.string ⟨⟨m2⟩⟩) ∧ Below w.heap.size w w'))
    (H3 : Hid (∀ g cap w, KeysAt w g cap → Calls Tryd.prog 17 #[.agg #[.slice (some ⟨g, 0, none⟩) 64 cap, .string ⟨⟨ts⟩⟩], .int .i64 n, .string ⟨⟨k⟩⟩] w fun e w' => e = .returned (.string ⟨⟨m2⟩⟩) ∧ Below w.heap.size w w')) :
    Calls Tryd.prog 4 #[.string ⟨⟨a⟩⟩, .int .i64 n, .string ⟨⟨k⟩⟩] w fun e w' => e = .returned (.bool true) ∧ Below w.heap.size w w' := by
  have e1 : decide (200 < (a.length : Int)) = false := by simp; omega
  have e2 : decide (200 < (k.length : Int)) = false := by simp; omega
  go_enter Tryd.func4, Tryd.ntmps4
  go_wp2_with fail
  refine (HW.out w HT).mono ?_
  rintro _ w1 ⟨rfl, b1⟩
  go_wp2_with fail
  refine (HNEW.out w1).mono ?_
  rintro _ w2 ⟨vk, rfl, HK, hb2⟩
  have b2 := b1.trans (hb2.mono b1.size)
  clear hb2 b1
  obtain ⟨g, cap, rfl, hg, hcc⟩ := id HK
  clear hg hcc
  have HKA : KeysAt w2 g cap := HK
  have hk64 : Sh.KK.length = 64 := by decide
  rw [hk64]
  clear HK hk64
  go_wp2_with fail
  obtain ⟨w3, hw3⟩ : ∃ w3, w3 = w2.alloc (Obj.cells #[Value.slice (some ⟨g, 0, none⟩) 64 cap, Value.string ⟨⟨ts⟩⟩] 25) := ⟨_, rfl⟩
  rw [← hw3]
  have K3 : Two w3 w2.heap.size (.slice (some ⟨g, 0, none⟩) 64 cap) (.string ⟨⟨ts⟩⟩) := by
    rw [hw3]
    exact ⟨cell_of_row _ _ _ _ _ _ (heap_alloc_new _ _), cell_of_row _ _ _ _ _ _ (heap_alloc_new _ _)⟩
  have hz3 : w2.heap.size < w3.heap.size := by rw [hw3]; simp
  have b3 : Below w.heap.size w w3 := by rw [hw3]; exact b2.alloc b2.size _
  have N3 : KeysAt w3 g cap := by rw [hw3]; exact HKA.below ((Below.refl _ _).alloc (Nat.le_refl _) _)
  have T3 : Tabs w3 := HT.below b3
  have q0 := K3.1
  have q1 := K3.2
  clear hw3 b2 HKA HNEW
  generalize w2.heap.size = v at *
  go_region_held3 (fun w' => w'.cell? ⟨v, 0, none⟩ = some (.slice (some ⟨g, 0, none⟩) 64 cap) ∧ w'.cell? ⟨v, 1, none⟩ = some (.string ⟨⟨ts⟩⟩)) (first | (exact K7) | (exact K6) | (exact K5) | (exact K4) | go_keep)
    (first | (go_at_call 14; (with_reducible refine (H0.out _ (by first | exact T3 | exact T3.drew)).mono ?_); rintro _ w4 ⟨rfl, hb4⟩; have K4 := twoB hb4 hz3 K3; have hz4 : v < w4.heap.size := Nat.lt_of_lt_of_le hz3 hb4.size; have N4 : KeysAt w4 g cap := KeysAt.below (by first | exact N3 | exact N3.drew) hb4; have T4 : Tabs w4 := Tabs.below (by first | exact T3 | exact T3.drew) hb4) | (go_at_call 15; (with_reducible refine (H1.out _ _ _ (by first | exact N4 | exact N4.drew)).mono ?_); rintro _ w5 ⟨rfl, hb5⟩; have K5 := twoB hb5 hz4 K4; have hz5 : v < w5.heap.size := Nat.lt_of_lt_of_le hz4 hb5.size; have N5 : KeysAt w5 g cap := KeysAt.below (by first | exact N4 | exact N4.drew) hb5; have T5 : Tabs w5 := Tabs.below (by first | exact T4 | exact T4.drew) hb5) | (go_at_call 16; (with_reducible refine (H2.out _ (by first | exact T5 | exact T5.drew)).mono ?_); rintro _ w6 ⟨rfl, hb6⟩; have K6 := twoB hb6 hz5 K5; have hz6 : v < w6.heap.size := Nat.lt_of_lt_of_le hz5 hb6.size; have N6 : KeysAt w6 g cap := KeysAt.below (by first | exact N5 | exact N5.drew) hb6; have T6 : Tabs w6 := Tabs.below (by first | exact T5 | exact T5.drew) hb6) | (go_at_call 17; (with_reducible refine (H3.out _ _ _ (by first | exact N6 | exact N6.drew)).mono ?_); rintro _ w7 ⟨rfl, hb7⟩; have K7 := twoB hb7 hz6 K6; have hz7 : v < w7.heap.size := Nat.lt_of_lt_of_le hz6 hb7.size; have N7 : KeysAt w7 g cap := KeysAt.below (by first | exact N6 | exact N6.drew) hb7; have T7 : Tabs w7 := Tabs.below (by first | exact T6 | exact T6.drew) hb7))
  have b4 : Below w.heap.size w w4 := b3.trans ((undrew hb4).mono b3.size)
  have b5 := b4.trans (hb5.mono b4.size)
  have b6 := b5.trans (hb6.mono b5.size)
  have b7 := b6.trans (hb7.mono b6.size)
  clear hb4 hb5 hb6 hb7 b3 b4 b5 b6 K3 N3 T3 K4 N4 T4 K5 N5 T5 K6 N6 T6 K7 N7 T7 H0 H1 H2 H3 q0 q1
  go_wp2
  go_ret
  exact ⟨rfl, b7⟩

theorem deriveLong_walk (a : List UInt8) (n : Int) (k : List UInt8) (w : World) (HT : Tabs w) :
    Calls Tryd.prog 4 #[.string ⟨⟨a⟩⟩, .int .i64 n, .string ⟨⟨k⟩⟩] w fun e w' => e = .returned (.bool true) ∧ Below w.heap.size w w' := by
  have HW : Hid WorksIs := Lib.hid fun w h => worksD_any w h
  by_cases h : 200 < a.length ∨ 200 < k.length
  · exact deriveLong_no a k n w HT HW h
  · exact deriveLong_yes a k (Hm.mac k (De.txt [108, 111, 110, 103] n ++ a)) (Hm.mac k (De.txt [115, 101, 115, 115, 105, 111, 110] n)) (Sh.txt Sh.start) n w HT HW (by omega) (by omega) (Lib.hid fun w => New_any w)
      (Lib.hid fun w h => dLong_any a k n w h (by omega) (by omega)) (Lib.hid fun g cap w h => rLong_by _ a k _ n g cap w h (by omega) (Lib.hid (rmacIs k _ (by omega) (by rw [List.length_append, De.txt_length]; simp; omega))))
      (Lib.hid fun w h => dSession_any k n w h (by omega)) (Lib.hid fun g cap w h => rSession_by _ k _ n g cap w h (Lib.hid (rmacIs k _ (by omega) (by rw [De.txt_length]; decide))))
end Go.Proofs.YtihgglplbanegaaDoor
