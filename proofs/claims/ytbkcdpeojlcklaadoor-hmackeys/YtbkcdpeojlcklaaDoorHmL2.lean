/- HmacKeys' walk. -/
import Derived.Test.YtbkcdpeojlcklaaDoorHmW5
namespace Go.Proofs.YtbkcdpeojlcklaaDoor
open Go.RowKit

set_option maxRecDepth 100000 in
theorem hmacKeys_no (k s : List UInt8) (n : Int) (w : World) (HT : Tabs w) (h : 300 < k.length ∨ 300 < s.length ∨ n < 0 ∨ 64 < n) :
    Calls Tryd.prog 5 #[.string ⟨⟨k⟩⟩, .int .i64 n, .string ⟨⟨s⟩⟩] w fun e w' => e = .returned (.bool true) ∧ Below w.heap.size w w' := by
  by_cases h1 : 300 < k.length
  · clear h
    go_enter Tryd.func5, Tryd.ntmps5
    go_wp2_with fail
    refine (works_any w HT).mono ?_
    rintro _ w1 ⟨rfl, b1⟩
    go_wp2
    all_goals go_ret
    all_goals exact ⟨rfl, b1⟩
  · have g1 : k.length ≤ 300 := by omega
    by_cases h2 : 300 < s.length
    · clear h h1
      go_enter Tryd.func5, Tryd.ntmps5
      go_wp2_with fail
      refine (works_any w HT).mono ?_
      rintro _ w1 ⟨rfl, b1⟩
      go_wp2
      all_goals go_ret
      all_goals exact ⟨rfl, b1⟩
    · have g2 : s.length ≤ 300 := by omega
      by_cases h3 : n < 0
      · clear h h1 h2
        go_enter Tryd.func5, Tryd.ntmps5
        go_wp2_with fail
        refine (works_any w HT).mono ?_
        rintro _ w1 ⟨rfl, b1⟩
        go_wp2
        all_goals go_ret
        all_goals exact ⟨rfl, b1⟩
      · have g3 : 0 ≤ n := by omega
        have h4 : 64 < n := by omega
        clear h h1 h2
        go_enter Tryd.func5, Tryd.ntmps5
        go_wp2_with fail
        refine (works_any w HT).mono ?_
        rintro _ w1 ⟨rfl, b1⟩
        go_wp2
        all_goals go_ret
        all_goals exact ⟨rfl, b1⟩

set_option maxRecDepth 100000 in
set_option maxHeartbeats 2000000 in
theorem hmacKeys_yes (k s : List UInt8) (m : Nat) (w : World) (HT : Tabs w) (h1 : k.length ≤ 300) (h2 : s.length ≤ 300) (h4 : m ≤ 64) (h5 : k.length + m ≤ 64 ∨ 64 < k.length + m) :
    Calls Tryd.prog 5 #[.string ⟨⟨k⟩⟩, .int .i64 (m : Nat), .string ⟨⟨s⟩⟩] w fun e w' => e = .returned (.bool true) ∧ Below w.heap.size w w' := by
  have HK := Lib.hid fun W HT => Key_any k W HT (by omega)
  have HKK := Lib.hid fun W HT => Key_any (Hm.key k) W HT (by rw [Hm.key_length]; decide)
  have HM := Lib.hid fun W HT => Mac_any k s W HT (by omega) (by omega)
  have HMK := Lib.hid fun W HT => Mac_any (Hm.key k) s W HT (by rw [Hm.key_length]; decide) (by omega)
  rw [Hm.key_key] at HKK
  rw [Hm.mac_key] at HMK
  have hlk : (Hm.key k).length = 64 := Hm.key_length k
  have HLK := Lib.hid hlk
  have e1 : (((Hm.key k).length : Int) != 64) = false := by rw [hlk]; rfl
  have HMM : Hid (k.length + m ≤ 64 → ∀ W (_ : Tabs W), Calls Tryd.prog 9 #[.string ⟨⟨k ++ List.replicate m 0⟩⟩, .string ⟨⟨s⟩⟩] W fun e w' => e = .returned (.string ⟨⟨Hm.mac k s⟩⟩) ∧ Below W.heap.size W w') := Lib.hid fun h W HT => by
    have := Mac_any (k ++ List.replicate m 0) s W HT (by rw [List.length_append, List.length_replicate]; omega) (by omega)
    rw [Hm.mac_more k s m h] at this
    exact this
  have HKM : Hid (k.length + m ≤ 64 → ∀ W (_ : Tabs W), Calls Tryd.prog 11 #[.string ⟨⟨k ++ List.replicate m 0⟩⟩] W fun e w' => e = .returned (.string ⟨⟨Hm.key k⟩⟩) ∧ Below W.heap.size W w') := Lib.hid fun h W HT => by
    have := Key_any (k ++ List.replicate m 0) W HT (by rw [List.length_append, List.length_replicate]; omega)
    rw [Hm.key_more k m h] at this
    exact this
  have HTK : Hid (k.length + m ≤ 64 → (Hm.key k).take k.length = k) := Lib.hid fun h => Hm.key_take k (by omega)
  generalize Hm.key k = q at *
  generalize Hm.mac k s = mc at *
  clear hlk
  go_enter Tryd.func5, Tryd.ntmps5
  go_wp2_with fail
  refine (works_any w HT).mono ?_
  rintro _ w1 ⟨rfl, b1⟩
  go_wp2_with fail
  refine (HK.out w1 (HT.below b1)).mono ?_
  rintro _ w2 ⟨rfl, hb2⟩
  have b2 := b1.trans (hb2.mono b1.size)
  clear hb2 b1
  go_wp2_with fail
  refine (HMK.out w2 (HT.below b2)).mono ?_
  rintro _ w3 ⟨rfl, hb3⟩
  have b3 := b2.trans (hb3.mono b2.size)
  clear hb3 b2
  go_wp2_with fail
  refine (HM.out w3 (HT.below b3)).mono ?_
  rintro _ w4 ⟨rfl, hb4⟩
  have b4 := b3.trans (hb4.mono b3.size)
  clear hb4 b3
  go_wp2_with fail
  refine (HKK.out w4 (HT.below b4)).mono ?_
  rintro _ w5 ⟨rfl, hb5⟩
  have b5 := b4.trans (hb5.mono b4.size)
  clear hb5 b4
  rcases h5 with h5 | h5
  · have hmk := make_any m (by omega)
    have hcv : ∀ W : World, (convert 30 9 (.slice (some ⟨W.heap.size, 0, none⟩) m m)).run Tryd.prog (W.alloc (.cells (bcells (List.replicate m 0)) 5)) = .ok (.string ⟨⟨List.replicate m 0⟩⟩) (W.alloc (.cells (bcells (List.replicate m 0)) 5)) := fun W => by
      have := conv_any (W.alloc (.cells (bcells (List.replicate m 0)) 5)) W.heap.size m (List.replicate m 0) 5 (0, 0) _ (heap_alloc_new _ _) (fun j hj => bcells_at _ j hj)
      rw [List.length_replicate] at this
      exact this
    have hap : ByteArray.mk ⟨k⟩ ++ ByteArray.mk ⟨List.replicate m 0⟩ = ⟨⟨k ++ List.replicate m 0⟩⟩ := app_str _ _
    have hzl : (List.replicate m (0 : UInt8)).length ≤ 64 := by rw [List.length_replicate]; exact h4
    have HMM2 := Lib.hid (HMM.out h5)
    have HKM2 := Lib.hid (HKM.out h5)
    have HTK2 := Lib.hid (HTK.out h5)
    clear HMM HKM HTK
    generalize List.replicate m (0 : UInt8) = z at *
    have hcut : (ByteArray.mk ⟨q⟩).extract 0 k.length = ⟨⟨k⟩⟩ := by rw [cut_str, List.drop_zero, Nat.sub_zero, HTK2.out]
    have hkq : k.length ≤ q.length := by rw [HLK.out]; omega
    go_wp2_with fail
    have b6 := b5.alloc b5.size (.cells (bcells z) 5)
    refine (HMM2.out _ (HT.below b6)).mono ?_
    rintro _ w6 ⟨rfl, hb6⟩
    have b7 := b6.trans (hb6.mono b6.size)
    clear hb6 b6 b5
    go_wp2_with fail
    refine (HM.out w6 (HT.below b7)).mono ?_
    rintro _ w7 ⟨rfl, hb7⟩
    have b8 := b7.trans (hb7.mono b7.size)
    clear hb7 b7
    go_wp2_with fail
    refine (HKM2.out w7 (HT.below b8)).mono ?_
    rintro _ w8 ⟨rfl, hb8⟩
    have b9 := b8.trans (hb8.mono b8.size)
    clear hb8 b8
    go_wp2
    go_ret
    exact ⟨rfl, b9⟩
  · go_wp2
    all_goals go_ret
    all_goals exact ⟨rfl, b5⟩

theorem hmacKeys_walk (k s : List UInt8) (n : Int) (w : World) (HT : Tabs w) :
    Calls Tryd.prog 5 #[.string ⟨⟨k⟩⟩, .int .i64 n, .string ⟨⟨s⟩⟩] w fun e w' => e = .returned (.bool true) ∧ Below w.heap.size w w' := by
  by_cases h : 300 < k.length ∨ 300 < s.length ∨ n < 0 ∨ 64 < n
  · exact hmacKeys_no k s n w HT h
  · obtain ⟨m, rfl⟩ := Int.eq_ofNat_of_zero_le (show 0 ≤ n by omega)
    exact hmacKeys_yes k s m w HT (by omega) (by omega) (by omega) (by omega)
end Go.Proofs.YtbkcdpeojlcklaaDoor
