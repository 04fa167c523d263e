/- hmac.Mac. -/
import Derived.Test.YtdjehpbkkbahcaaDoorHmW3
namespace Go.Proofs.YtdjehpbkkbahcaaDoor
open Go.RowKit

theorem xor_app (x : UInt8) (k s : List UInt8) : ByteArray.mk ⟨Hm.xr x k⟩ ++ ByteArray.mk ⟨s⟩ = ⟨⟨Hm.xr x k ++ s⟩⟩ := app_str _ _

set_option maxRecDepth 100000 in
theorem Mac_any (k s : List UInt8) (w : World) (HT : Tabs w) (hk : k.length ≤ 10000) (hs : s.length ≤ 10000) :
    Calls Tryd.prog 17 #[.string ⟨⟨k⟩⟩, .string ⟨⟨s⟩⟩] w fun e w' => e = .returned (.string ⟨⟨Hm.mac k s⟩⟩) ∧ Below w.heap.size w w' := by
  have HE : Hid (Hm.mac k s = Sh.sum (Hm.xr 92 (Hm.key k) ++ Sh.sum (Hm.xr 54 (Hm.key k) ++ s))) := Lib.hid rfl
  have HKL := Lib.hid (Hm.key_length k)
  have HKA := Lib.hid (Key_any k w HT (by omega))
  generalize Hm.key k = q at *
  go_enter Tryd.func17, Tryd.ntmps17
  go_wp2_with fail
  refine HKA.out.mono ?_
  rintro _ w1 ⟨rfl, hb1⟩
  clear HKA
  have hq : q.length ≤ 64 := by rw [HKL.out]; exact Nat.le_refl _
  go_wp2_with fail
  refine (with_any 54 w1).mono ?_
  rintro _ w2 ⟨rfl, hw2⟩
  have hb2 : Below w.heap.size w w2 := by rw [← hw2]; exact hb1.alloc hb1.size _
  have hc2 : w2.cell? ⟨w1.heap.size, 0, none⟩ = some (.int .u8 ((54 : UInt8).toNat : Nat)) := by rw [← hw2]; exact boxed8 54 w1
  have HC2 := Lib.hid hc2
  clear hw2 hc2 hb1
  go_wp2_with fail
  refine (changed_any q 54 _ w2 (by omega) HC2.out).mono ?_
  rintro _ w3 ⟨rfl, hb3⟩
  have b3 := hb2.trans (hb3.mono hb2.size)
  have hl1 : (Hm.xr 54 q).length ≤ 64 := by rw [Hm.xr_length]; exact hq
  have hap1 := xor_app 54 q s
  generalize Hm.xr 54 q = x1 at *
  clear hb3 hb2 HC2
  go_wp2_with fail
  refine (Sum_any (x1 ++ s) w3 (HT.below b3) (by rw [List.length_append]; omega)).mono ?_
  rintro _ w4 ⟨rfl, hb4⟩
  have b4 := b3.trans (hb4.mono b3.size)
  have hls : (Sh.sum (x1 ++ s)).length ≤ 32 := by rw [Hm.sum_length]; exact Nat.le_refl _
  generalize Sh.sum (x1 ++ s) = sm at *
  clear hb4 b3 hap1 hl1
  go_wp2_with fail
  refine (with_any 92 w4).mono ?_
  rintro _ w5 ⟨rfl, hw5⟩
  have b5 : Below w.heap.size w w5 := by rw [← hw5]; exact b4.alloc b4.size _
  have hc5 : w5.cell? ⟨w4.heap.size, 0, none⟩ = some (.int .u8 ((92 : UInt8).toNat : Nat)) := by rw [← hw5]; exact boxed8 92 w4
  have HC5 := Lib.hid hc5
  clear hw5 hc5 b4
  go_wp2_with fail
  refine (changed_any q 92 _ w5 (by omega) HC5.out).mono ?_
  rintro _ w6 ⟨rfl, hb6⟩
  have b6 := b5.trans (hb6.mono b5.size)
  have hl2 : (Hm.xr 92 q).length ≤ 64 := by rw [Hm.xr_length]; exact hq
  have hap2 := xor_app 92 q sm
  generalize Hm.xr 92 q = x2 at *
  clear hb6 b5 HC5
  go_wp2_with fail
  refine (Sum_any (x2 ++ sm) w6 (HT.below b6) (by rw [List.length_append]; omega)).mono ?_
  rintro _ w7 ⟨rfl, hb7⟩
  have b7 := b6.trans (hb7.mono b6.size)
  generalize Sh.sum (x2 ++ sm) = m at *
  clear hb7 b6 hap2 hl2
  go_wp2
  go_ret
  exact ⟨by rw [HE.out]; rfl, b7⟩

theorem Mac_jefe (w : World) (HT : Tabs w) :
    Calls Tryd.prog 17 #[.string ⟨#[74, 101, 102, 101]⟩, .string ⟨#[119, 104, 97, 116, 32, 100, 111, 32, 121, 97, 32, 119, 97, 110, 116, 32, 102, 111, 114, 32, 110, 111, 116, 104, 105, 110, 103, 63]⟩] w fun e w' => e = .returned (.string ⟨#[91, 220, 193, 70, 191, 96, 117, 78, 106, 4, 36, 38, 8, 149, 117, 199, 90, 0, 63, 8, 157, 39, 57, 131, 157, 236, 88, 185, 100, 236, 56, 67]⟩) ∧ Below w.heap.size w w' := by
  have h := Mac_any [74, 101, 102, 101] [119, 104, 97, 116, 32, 100, 111, 32, 121, 97, 32, 119, 97, 110, 116, 32, 102, 111, 114, 32, 110, 111, 116, 104, 105, 110, 103, 63] w HT (by decide) (by decide)
  rw [Hm.mac_jefe] at h
  exact h
end Go.Proofs.YtdjehpbkkbahcaaDoor
