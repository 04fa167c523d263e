/- HmacMacs' walk. -/
import Derived.Test.YtbkcdpeojlcklaaDoorHmV2
namespace Go.Proofs.YtbkcdpeojlcklaaDoor
open Go.RowKit

set_option maxRecDepth 100000 in
theorem hmacMacs_no (k s : List UInt8) (w : World) (HT : Tabs w) (h : 300 < k.length ∨ 300 < s.length) :
    Calls Tryd.prog 3 #[.string ⟨⟨k⟩⟩, .string ⟨⟨s⟩⟩] w fun e w' => e = .returned (.bool true) ∧ Below w.heap.size w w' := by
  by_cases h1 : 300 < k.length
  · clear h
    go_enter Tryd.func3, Tryd.ntmps3
    go_wp2_with fail
    refine (works_any w HT).mono ?_
    rintro _ w1 ⟨rfl, b1⟩
    go_wp2
    all_goals go_ret
    all_goals exact ⟨rfl, b1⟩
  · have g1 : k.length ≤ 300 := by omega
    have h2 : 300 < s.length := by omega
    clear h h1
    go_enter Tryd.func3, Tryd.ntmps3
    go_wp2_with fail
    refine (works_any w HT).mono ?_
    rintro _ w1 ⟨rfl, b1⟩
    go_wp2
    all_goals go_ret
    all_goals exact ⟨rfl, b1⟩

set_option maxRecDepth 100000 in
set_option maxHeartbeats 2000000 in
theorem hmacMacs_yes (k s q mc ts : List UInt8) (w : World) (HT : Tabs w) (h1 : k.length ≤ 300) (h2 : s.length ≤ 300)
    (HNEW : Hid (∀ w, Calls Tryd.prog 8 #[] w (NewPost ts w)))
    (HM : Hid (∀ w, Tabs w → Calls Tryd.prog 9 #[.string ⟨⟨k⟩⟩, .string ⟨⟨s⟩⟩] w fun e w' => e = .returned (.string ⟨⟨mc⟩⟩) ∧ Below w.heap.size w w'))
    (HKEY : Hid (∀ w, Tabs w → Calls Tryd.prog 11 #[.string ⟨⟨k⟩⟩] w fun e w' => e = .returned (.string ⟨⟨q⟩⟩) ∧ Below w.heap.size w w'))
    (HRM : Hid (∀ g cap w, KeysAt w g cap → Calls Tryd.prog 10 #[.agg #[.slice (some ⟨g, 0, none⟩) 64 cap, .string ⟨⟨ts⟩⟩], .string ⟨⟨k⟩⟩, .string ⟨⟨s⟩⟩] w fun e w' => e = .returned (.string ⟨⟨mc⟩⟩) ∧ Below w.heap.size w w'))
    (HRK : Hid (∀ g cap w, KeysAt w g cap → Calls Tryd.prog 12 #[.agg #[.slice (some ⟨g, 0, none⟩) 64 cap, .string ⟨⟨ts⟩⟩], .string ⟨⟨k⟩⟩] w fun e w' => e = .returned (.string ⟨⟨q⟩⟩) ∧ Below w.heap.size w w')) :
    Calls Tryd.prog 3 #[.string ⟨⟨k⟩⟩, .string ⟨⟨s⟩⟩] w fun e w' => e = .returned (.bool true) ∧ Below w.heap.size w w' := by
  have e1 : decide (300 < (k.length : Int)) = false := by simp; omega
  have e2 : decide (300 < (s.length : Int)) = false := by simp; omega
  go_enter Tryd.func3, Tryd.ntmps3
  go_wp2_with fail
  refine (works_any w HT).mono ?_
  rintro _ w1 ⟨rfl, b1⟩
  go_wp2_with fail
  refine (HNEW.out w1).mono ?_
  rintro _ w2 ⟨vk, rfl, HK, hb2⟩
  have b2 := b1.trans (hb2.mono b1.size)
  clear hb2 b1
  obtain ⟨g, cap, rfl, hg, hcc⟩ := id HK
  clear hg hcc
  have HKA : KeysAt w2 g cap := HK
  have hk64 : Sh.KK.length = 64 := by decide
  rw [hk64]
  clear HK hk64
  go_wp2_with fail
  obtain ⟨w3, hw3⟩ : ∃ w3, w3 = w2.alloc (Obj.cells #[Value.slice (some ⟨g, 0, none⟩) 64 cap, Value.string ⟨⟨ts⟩⟩] 25) := ⟨_, rfl⟩
  rw [← hw3]
  have K3 : Two w3 w2.heap.size (.slice (some ⟨g, 0, none⟩) 64 cap) (.string ⟨⟨ts⟩⟩) := by
    rw [hw3]
    exact ⟨cell_of_row _ _ _ _ _ _ (heap_alloc_new _ _), cell_of_row _ _ _ _ _ _ (heap_alloc_new _ _)⟩
  have hz3 : w2.heap.size < w3.heap.size := by rw [hw3]; simp
  have b3 : Below w.heap.size w w3 := by rw [hw3]; exact b2.alloc b2.size _
  have HK3 : KeysAt w3 g cap := by rw [hw3]; exact HKA.below ((Below.refl _ _).alloc (Nat.le_refl _) _)
  have T3 : Tabs w3 := HT.below b3
  have q0 := K3.1
  have q1 := K3.2
  clear hw3 b2 HKA HNEW
  generalize w2.heap.size = v at *
  go_region_held3 (fun w' => w'.cell? ⟨v, 0, none⟩ = some (.slice (some ⟨g, 0, none⟩) 64 cap) ∧ w'.cell? ⟨v, 1, none⟩ = some (.string ⟨⟨ts⟩⟩)) (first | (exact K7) | (exact K6) | (exact K5) | (exact K4) | go_keep)
    (first | (go_at_call 9; (with_reducible refine (HM.out _ (by first | exact T3 | exact T3.drew)).mono ?_); rintro _ w4 ⟨rfl, hb4⟩; have K4 := twoB hb4 hz3 K3; have hz4 : v < w4.heap.size := Nat.lt_of_lt_of_le hz3 hb4.size; have N4 : KeysAt w4 g cap := KeysAt.below (by first | exact HK3 | exact HK3.drew) hb4; have T4 : Tabs w4 := Tabs.below (by first | exact T3 | exact T3.drew) hb4) | (go_at_call 10; (with_reducible refine (HRM.out _ _ _ (by first | exact N4 | exact N4.drew)).mono ?_); rintro _ w5 ⟨rfl, hb5⟩; have K5 := twoB hb5 hz4 K4; have hz5 : v < w5.heap.size := Nat.lt_of_lt_of_le hz4 hb5.size; have N5 : KeysAt w5 g cap := KeysAt.below (by first | exact N4 | exact N4.drew) hb5; have T5 : Tabs w5 := Tabs.below (by first | exact T4 | exact T4.drew) hb5) | (go_at_call 11; (with_reducible refine (HKEY.out _ (by first | exact T5 | exact T5.drew)).mono ?_); rintro _ w6 ⟨rfl, hb6⟩; have K6 := twoB hb6 hz5 K5; have hz6 : v < w6.heap.size := Nat.lt_of_lt_of_le hz5 hb6.size; have N6 : KeysAt w6 g cap := KeysAt.below (by first | exact N5 | exact N5.drew) hb6) | (go_at_call 12; (with_reducible refine (HRK.out _ _ _ (by first | exact N6 | exact N6.drew)).mono ?_); rintro _ w7 ⟨rfl, hb7⟩; have K7 := twoB hb7 hz6 K6))
  have b4 : Below w.heap.size w w4 := b3.trans ((undrew hb4).mono b3.size)
  have b5 := b4.trans (hb5.mono b4.size)
  have b6 := b5.trans (hb6.mono b5.size)
  have b7 := b6.trans (hb7.mono b6.size)
  clear hb4 hb5 hb6 hb7 b3 b4 b5 b6 K3 K4 K5 K6 K7 N4 N5 N6 T3 T4 T5 HM HKEY HRM HRK q0 q1
  go_wp2
  go_ret
  exact ⟨rfl, b7⟩

theorem hmacMacs_walk (k s : List UInt8) (w : World) (HT : Tabs w) :
    Calls Tryd.prog 3 #[.string ⟨⟨k⟩⟩, .string ⟨⟨s⟩⟩] w fun e w' => e = .returned (.bool true) ∧ Below w.heap.size w w' := by
  by_cases h : 300 < k.length ∨ 300 < s.length
  · exact hmacMacs_no k s w HT h
  · exact hmacMacs_yes k s (Hm.key k) (Hm.mac k s) (Sh.txt Sh.start) w HT (by omega) (by omega) (Lib.hid fun w => New_any w) (Lib.hid fun w h => Mac_any k s w h (by omega) (by omega)) (Lib.hid fun w h => Key_any k w h (by omega))
      (Lib.hid fun g cap w h => RMac_any k s g cap w h (by omega) (by omega)) (Lib.hid fun g cap w h => RKey_any k g cap w h (by omega))
end Go.Proofs.YtbkcdpeojlcklaaDoor
