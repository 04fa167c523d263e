/- DeriveKeys' walk. -/
import Derived.Test.YtihgglplbanegaaDoorDeV2
import Derived.Test.YtihgglplbanegaaDoorDeL1
import Derived.Test.YtihgglplbanegaaDoorDeW3
namespace Go.Proofs.YtihgglplbanegaaDoor
open Go.RowKit
set_option maxRecDepth 100000 in
theorem deriveKeys_no (b l : List UInt8) (n : Int) (w : World) (HT : Tabs w) (HW : Hid WorksIs) (h : 200 < b.length ∨ 200 < l.length) :
    Calls Tryd.prog 3 #[.string ⟨⟨b⟩⟩, .int .i64 n, .string ⟨⟨l⟩⟩] w fun e w' => e = .returned (.bool true) ∧ Below w.heap.size w w' := by
  by_cases h1 : 200 < b.length
  · clear h
    go_enter Tryd.func3, Tryd.ntmps3
    go_wp2_with fail
    refine (HW.out w HT).mono ?_
    rintro _ w1 ⟨rfl, b1⟩
    go_wp2
    all_goals go_ret
    all_goals exact ⟨rfl, b1⟩
  · have g1 : b.length ≤ 200 := by omega
    have h2 : 200 < l.length := by omega
    clear h h1
    go_enter Tryd.func3, Tryd.ntmps3
    go_wp2_with fail
    refine (HW.out w HT).mono ?_
    rintro _ w1 ⟨rfl, b1⟩
    go_wp2
    all_goals go_ret
    all_goals exact ⟨rfl, b1⟩
set_option maxRecDepth 100000 in
set_option maxHeartbeats 4000000 in
theorem deriveKeys_yes (b l m1 m2 m3 ts : List UInt8) (n : Int) (w : World) (HT : Tabs w) (HW : Hid WorksIs) (h1 : b.length ≤ 200) (h2 : l.length ≤ 200)
    (HNEW : Hid (∀ w, Calls Tryd.prog 7 #[] w (NewPost ts w)))
    (H0 : Hid (∀ w, Tabs w → Calls Tryd.prog 8 #[.string ⟨⟨b⟩⟩, .int .i64 n, .string ⟨⟨l⟩⟩] w fun e w' => e = .returned (.string ⟨⟨m1⟩⟩) ∧ Below w.heap.size w w'))
    (H1 : Hid (∀ g cap w, KeysAt w g cap → Calls Tryd.prog 9 #[.agg #[.slice (some ⟨g, 0, none⟩) 64 cap, .string ⟨⟨ts⟩⟩], .string ⟨⟨b⟩⟩, .int .i64 n, .string ⟨⟨l⟩⟩] w fun e w' => e = .returned (.string ⟨⟨m1⟩⟩) ∧ Below w.heap.size w w'))
    (H2 : Hid (∀ w, Tabs w → Calls Tryd.prog 10 #[.string ⟨⟨b⟩⟩, .int .i64 n] w fun e w' => e = .returned (.string ⟨⟨m2⟩⟩) ∧ Below w.heap.size w w'))
    (H3 : Hid (∀ g cap w, KeysAt w g cap → Calls Tryd.prog 11 #[.agg #[.slice (some ⟨g, 0, none⟩) 64 cap, .string ⟨⟨ts⟩⟩], .string ⟨⟨b⟩⟩, .int .i64 n] w fun e w' => e = .returned (.string ⟨⟨m2⟩⟩) ∧ Below w.heap.size w w'))
    (H4 : Hid (∀ w, Tabs w → Calls Tryd.prog 12 #[.string ⟨⟨b⟩⟩, .int .i64 n] w fun e w' => e = .returned (.string ⟨⟨m3⟩⟩) ∧ Below w.heap.size w w'))
    (H5 : Hid (∀ g cap w, KeysAt w g cap → Calls Tryd.prog 13 #[.agg #[.slice (some ⟨g, 0, none⟩) 64 cap, .string ⟨⟨ts⟩⟩], .string ⟨⟨b⟩⟩, .int .i64 n] w fun e w' => e = .returned (.string ⟨⟨m3⟩⟩) ∧ Below w.heap.size w w')) :
    Calls Tryd.prog 3 #[.string ⟨⟨b⟩⟩, .int .i64 n, .string ⟨⟨l⟩⟩] w fun e w' => e = .returned (.bool true) ∧ Below w.heap.size w w' := by
  have e1 : decide (200 < (b.length : Int)) = false := by simp; omega
  have e2 : decide (200 < (l.length : Int)) = false := by simp; omega
  go_enter Tryd.func3, Tryd.ntmps3
  go_wp2_with fail
  refine (HW.out w HT).mono ?_
  rintro _ w1 ⟨rfl, b1⟩
  go_wp2_with fail
  refine (HNEW.out w1).mono ?_
  rintro _ w2 ⟨vk, rfl, HK, hb2⟩
  have b2 := b1.trans (hb2.mono b1.size)
  clear hb2 b1
  obtain ⟨g, cap, rfl, hg, hcc⟩ := id HK
  clear hg hcc
  have HKA : KeysAt w2 g cap := HK
  have hk64 : Sh.KK.length = 64 := by decide
  rw [hk64]
  clear HK hk64
  go_wp2_with fail
  obtain ⟨w3, hw3⟩ : ∃ w3, w3 = w2.alloc (Obj.cells #[Value.slice (some ⟨g, 0, none⟩) 64 cap, Value.string ⟨⟨ts⟩⟩] 25) := ⟨_, rfl⟩
  rw [← hw3]
  have K3 : Two w3 w2.heap.size (.slice (some ⟨g, 0, none⟩) 64 cap) (.string ⟨⟨ts⟩⟩) := by
    rw [hw3]
    exact ⟨cell_of_row _ _ _ _ _ _ (heap_alloc_new _ _), cell_of_row _ _ _ _ _ _ (heap_alloc_new _ _)⟩
  have hz3 : w2.heap.size < w3.heap.size := by rw [hw3]; simp
  have b3 : Below w.heap.size w w3 := by rw [hw3]; exact b2.alloc b2.size _
  have N3 : KeysAt w3 g cap := by rw [hw3]; exact HKA.below ((Below.refl _ _).alloc (Nat.le_refl _) _)
  have T3 : Tabs w3 := HT.below b3
  have q0 := K3.1
  have q1 := K3.2
  clear hw3 b2 HKA HNEW
  generalize w2.heap.size = v at *
  go_region_held3 (fun w' => w'.cell? ⟨v, 0, none⟩ = some (.slice (some ⟨g, 0, none⟩) 64 cap) ∧ w'.cell? ⟨v, 1, none⟩ = some (.string ⟨⟨ts⟩⟩)) (first | (exact K9) | (exact K8) | (exact K7) | (exact K6) | (exact K5) | (exact K4) | go_keep)
    (first | (go_at_call 8; (with_reducible refine (H0.out _ (by first | exact T3 | exact T3.drew)).mono ?_); rintro _ w4 ⟨rfl, hb4⟩; have K4 := twoB hb4 hz3 K3; have hz4 : v < w4.heap.size := Nat.lt_of_lt_of_le hz3 hb4.size; have N4 : KeysAt w4 g cap := KeysAt.below (by first | exact N3 | exact N3.drew) hb4; have T4 : Tabs w4 := Tabs.below (by first | exact T3 | exact T3.drew) hb4) | (go_at_call 9; (with_reducible refine (H1.out _ _ _ (by first | exact N4 | exact N4.drew)).mono ?_); rintro _ w5 ⟨rfl, hb5⟩; have K5 := twoB hb5 hz4 K4; have hz5 : v < w5.heap.size := Nat.lt_of_lt_of_le hz4 hb5.size; have N5 : KeysAt w5 g cap := KeysAt.below (by first | exact N4 | exact N4.drew) hb5; have T5 : Tabs w5 := Tabs.below (by first | exact T4 | exact T4.drew) hb5) | (go_at_call 10; (with_reducible refine (H2.out _ (by first | exact T5 | exact T5.drew)).mono ?_); rintro _ w6 ⟨rfl, hb6⟩; have K6 := twoB hb6 hz5 K5; have hz6 : v < w6.heap.size := Nat.lt_of_lt_of_le hz5 hb6.size; have N6 : KeysAt w6 g cap := KeysAt.below (by first | exact N5 | exact N5.drew) hb6; have T6 : Tabs w6 := Tabs.below (by first | exact T5 | exact T5.drew) hb6) | (go_at_call 11; (with_reducible refine (H3.out _ _ _ (by first | exact N6 | exact N6.drew)).mono ?_); rintro _ w7 ⟨rfl, hb7⟩; have K7 := twoB hb7 hz6 K6; have hz7 : v < w7.heap.size := Nat.lt_of_lt_of_le hz6 hb7.size; have N7 : KeysAt w7 g cap := KeysAt.below (by first | exact N6 | exact N6.drew) hb7; have T7 : Tabs w7 := Tabs.below (by first | exact T6 | exact T6.drew) hb7) | (go_at_call 12; (with_reducible refine (H4.out _ (by first | exact T7 | exact T7.drew)).mono ?_); rintro _ w8 ⟨rfl, hb8⟩; have K8 := twoB hb8 hz7 K7; have hz8 : v < w8.heap.size := Nat.lt_of_lt_of_le hz7 hb8.size; have N8 : KeysAt w8 g cap := KeysAt.below (by first | exact N7 | exact N7.drew) hb8; have T8 : Tabs w8 := Tabs.below (by first | exact T7 | exact T7.drew) hb8) | (go_at_call 13; (with_reducible refine (H5.out _ _ _ (by first | exact N8 | exact N8.drew)).mono ?_); rintro _ w9 ⟨rfl, hb9⟩; have K9 := twoB hb9 hz8 K8; have hz9 : v < w9.heap.size := Nat.lt_of_lt_of_le hz8 hb9.size; have N9 : KeysAt w9 g cap := KeysAt.below (by first | exact N8 | exact N8.drew) hb9; have T9 : Tabs w9 := Tabs.below (by first | exact T8 | exact T8.drew) hb9))
  have b4 : Below w.heap.size w w4 := b3.trans ((undrew hb4).mono b3.size)
  have b5 := b4.trans (hb5.mono b4.size)
  have b6 := b5.trans (hb6.mono b5.size)
  have b7 := b6.trans (hb7.mono b6.size)
  have b8 := b7.trans (hb8.mono b7.size)
  have b9 := b8.trans (hb9.mono b8.size)
  clear hb4 hb5 hb6 hb7 hb8 hb9 b3 b4 b5 b6 b7 b8 K3 N3 T3 K4 N4 T4 K5 N5 T5 K6 N6 T6 K7 N7 T7 K8 N8 T8 K9 N9 T9 H0 H1 H2 H3 H4 H5 q0 q1
  go_wp2
  go_ret
  exact ⟨rfl, b9⟩

theorem deriveKeys_walk (b : List UInt8) (n : Int) (l : List UInt8) (w : World) (HT : Tabs w) :
    Calls Tryd.prog 3 #[.string ⟨⟨b⟩⟩, .int .i64 n, .string ⟨⟨l⟩⟩] w fun e w' => e = .returned (.bool true) ∧ Below w.heap.size w w' := by
  have HW : Hid WorksIs := Lib.hid fun w h => worksD_any w h
  by_cases h : 200 < b.length ∨ 200 < l.length
  · exact deriveKeys_no b l n w HT HW h
  · exact deriveKeys_yes b l (De.key b n l) ((De.key b n [99, 105, 112, 104, 101, 114]).take 16) (De.key b n [115, 117, 109]) (Sh.txt Sh.start) n w HT HW (by omega) (by omega) (Lib.hid fun w => New_any w)
      (Lib.hid fun w h => keyIs b l n (by omega) (by omega) w h) (Lib.hid fun g cap w h => rkeyIs b l n (by omega) (by omega) g cap w h)
      (Lib.hid fun w h => dCipher_any b n w h (by omega)) (Lib.hid fun g cap w h => rCipher_by _ b _ n g cap w h (De.key_length _ _ _) (Lib.hid (rkeyIs b _ n (by omega) (by decide))))
      (Lib.hid fun w h => dSum_any b n w h (by omega)) (Lib.hid fun g cap w h => rSum_by _ b _ n g cap w h (Lib.hid (rkeyIs b _ n (by omega) (by decide))))
end Go.Proofs.YtihgglplbanegaaDoor
