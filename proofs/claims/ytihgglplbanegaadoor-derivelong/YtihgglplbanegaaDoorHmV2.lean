/- The document's Mac. -/
import Derived.Test.YtihgglplbanegaaDoorHmV1
namespace Go.Proofs.YtihgglplbanegaaDoor
open Go.RowKit

/-- A variable of two cells. -/
def Two (w : World) (g : Nat) (a b : Value) : Prop := w.cell? ⟨g, 0, none⟩ = some a ∧ w.cell? ⟨g, 1, none⟩ = some b
theorem twoB {W w : World} {g : Nat} {a b : Value} (hb : Below W.heap.size W w) (hz : g < W.heap.size) (h : Two W g a b) : Two w g a b :=
  ⟨(hb.cell (p := ⟨g, 0, none⟩) hz).trans h.1, (hb.cell (p := ⟨g, 1, none⟩) hz).trans h.2⟩
theorem KeysAt.drew {w : World} {g cap : Nat} (h : KeysAt w g cap) : KeysAt w.drew g cap := h

set_option maxRecDepth 100000 in
set_option maxHeartbeats 1000000 in
theorem RMac_by (k s q x1 x2 sm mc ts : List UInt8) (g cap : Nat) (w : World) (HK : KeysAt w g cap) (hl1 : x1.length ≤ 64) (hl2 : x2.length ≤ 64) (hl3 : sm.length ≤ 32) (hs : s.length ≤ 4000)
    (HKEY : Hid (∀ w, KeysAt w g cap → Calls Tryd.prog 33 #[.agg #[.slice (some ⟨g, 0, none⟩) 64 cap, .string ⟨⟨ts⟩⟩], .string ⟨⟨k⟩⟩] w fun e w' => e = .returned (.string ⟨⟨q⟩⟩) ∧ Below w.heap.size w w'))
    (HX1 : Hid (∀ w, Calls Tryd.prog 35 #[.string ⟨⟨q⟩⟩, .int .u8 54] w fun e w' => e = .returned (.string ⟨⟨x1⟩⟩) ∧ Below w.heap.size w w'))
    (HX2 : Hid (∀ w, Calls Tryd.prog 35 #[.string ⟨⟨q⟩⟩, .int .u8 92] w fun e w' => e = .returned (.string ⟨⟨x2⟩⟩) ∧ Below w.heap.size w w'))
    (HS1 : Hid (∀ w, KeysAt w g cap → Calls Tryd.prog 34 #[.agg #[.slice (some ⟨g, 0, none⟩) 64 cap, .string ⟨⟨ts⟩⟩], .string ⟨⟨x1 ++ s⟩⟩] w fun e w' => e = .returned (.string ⟨⟨sm⟩⟩) ∧ Below w.heap.size w w'))
    (HS2 : Hid (∀ w, KeysAt w g cap → Calls Tryd.prog 34 #[.agg #[.slice (some ⟨g, 0, none⟩) 64 cap, .string ⟨⟨ts⟩⟩], .string ⟨⟨x2 ++ sm⟩⟩] w fun e w' => e = .returned (.string ⟨⟨mc⟩⟩) ∧ Below w.heap.size w w')) :
    Calls Tryd.prog 24 #[.agg #[.slice (some ⟨g, 0, none⟩) 64 cap, .string ⟨⟨ts⟩⟩], .string ⟨⟨k⟩⟩, .string ⟨⟨s⟩⟩] w fun e w' => e = .returned (.string ⟨⟨mc⟩⟩) ∧ Below w.heap.size w w' := by
  have b0 : Below w.heap.size w (w.alloc (.cells #[.slice (some ⟨g, 0, none⟩) 64 cap, .string ⟨⟨ts⟩⟩] 25)) := (Below.refl _ _).alloc (Nat.le_refl _) _
  have K0 : Two (w.alloc (.cells #[.slice (some ⟨g, 0, none⟩) 64 cap, .string ⟨⟨ts⟩⟩] 25)) w.heap.size (.slice (some ⟨g, 0, none⟩) 64 cap) (.string ⟨⟨ts⟩⟩) :=
    ⟨cell_of_row _ _ _ _ _ _ (heap_alloc_new _ _), cell_of_row _ _ _ _ _ _ (heap_alloc_new _ _)⟩
  have hap1 : ByteArray.mk ⟨x1⟩ ++ ByteArray.mk ⟨s⟩ = ⟨⟨x1 ++ s⟩⟩ := app_str _ _
  have hap2 : ByteArray.mk ⟨x2⟩ ++ ByteArray.mk ⟨sm⟩ = ⟨⟨x2 ++ sm⟩⟩ := app_str _ _
  have hw1 : ¬ 9223372036854775807 < x1.length + s.length := by omega
  have hw2 : ¬ 9223372036854775807 < x2.length + sm.length := by omega
  go_enter Tryd.func24, Tryd.ntmps24
  go_wp2_with fail
  refine (HKEY.out _ (HK.below b0)).mono ?_
  rintro _ w1 ⟨rfl, hb1⟩
  have K1 := twoB hb1 (by simp) K0
  have hz1 : w.heap.size < w1.heap.size := by have := hb1.size; simp at this; omega
  have b1 : Below w.heap.size w w1 := b0.trans (hb1.mono b0.size)
  have HK1 := HK.below b1
  have q0 := K1.1
  have q1 := K1.2
  clear hb1 b0 K0 HKEY
  go_wp2_with fail
  go_region_held3 (fun w' => w'.cell? ⟨w.heap.size, 0, none⟩ = some (.slice (some ⟨g, 0, none⟩) 64 cap) ∧ w'.cell? ⟨w.heap.size, 1, none⟩ = some (.string ⟨⟨ts⟩⟩)) (first | (exact K5) | (exact K4) | (exact K3) | (exact K2) | go_keep)
    (first | (go_at_call 35; (with_reducible refine (HX2.out _).mono ?_); rintro _ w2 ⟨rfl, hb2⟩; have K2 := twoB hb2 hz1 K1; have hz2 : w.heap.size < w2.heap.size := Nat.lt_of_lt_of_le hz1 hb2.size; have N2 : KeysAt w2 g cap := KeysAt.below (by first | exact HK1 | exact HK1.drew) hb2) | (go_at_call 35; (with_reducible refine (HX1.out _).mono ?_); rintro _ w3 ⟨rfl, hb3⟩; have K3 := twoB hb3 hz2 K2; have hz3 : w.heap.size < w3.heap.size := Nat.lt_of_lt_of_le hz2 hb3.size; have N3 : KeysAt w3 g cap := KeysAt.below (by first | exact N2 | exact N2.drew) hb3) | (go_at_call 34; (with_reducible refine (HS1.out _ (by first | exact N3 | exact N3.drew)).mono ?_); rintro _ w4 ⟨rfl, hb4⟩; have K4 := twoB hb4 hz3 K3; have hz4 : w.heap.size < w4.heap.size := Nat.lt_of_lt_of_le hz3 hb4.size; have N4 : KeysAt w4 g cap := KeysAt.below (by first | exact N3 | exact N3.drew) hb4) | (go_at_call 34; (with_reducible refine (HS2.out _ (by first | exact N4 | exact N4.drew)).mono ?_); rintro _ w5 ⟨rfl, hb5⟩; have K5 := twoB hb5 hz4 K4))
  have b2 : Below w.heap.size w w2 := b1.trans ((undrew hb2).mono b1.size)
  have b3 := b2.trans (hb3.mono b2.size)
  have b4 := b3.trans (hb4.mono b3.size)
  have b5 := b4.trans (hb5.mono b4.size)
  clear hb2 hb3 hb4 hb5 b1 b2 b3 b4 K1 K2 K3 K4 K5 N2 N3 N4 HX1 HX2 HS1 HS2 q0 q1
  go_wp2
  go_ret
  exact ⟨rfl, b5⟩

theorem RMac_any (k s : List UInt8) (g cap : Nat) (w : World) (HK : KeysAt w g cap) (hk : k.length ≤ 4000) (hs : s.length ≤ 4000) :
    Calls Tryd.prog 24 #[.agg #[.slice (some ⟨g, 0, none⟩) 64 cap, .string ⟨⟨Sh.txt Sh.start⟩⟩], .string ⟨⟨k⟩⟩, .string ⟨⟨s⟩⟩] w fun e w' => e = .returned (.string ⟨⟨Hm.mac k s⟩⟩) ∧ Below w.heap.size w w' := by
  have hk64 := Hm.key_length k
  have hx : ∀ x, (Hm.xr x (Hm.key k)).length ≤ 64 := fun x => by rw [Hm.xr_length, hk64]; exact Nat.le_refl _
  have hx1 := hx 54
  have hx2 := hx 92
  have hsm : (Sh.sum (Hm.xr 54 (Hm.key k) ++ s)).length ≤ 32 := by rw [Hm.sum_length]; exact Nat.le_refl _
  exact RMac_by k s (Hm.key k) _ _ _ _ _ g cap w HK hx1 hx2 hsm hs (Lib.hid fun w h => RKey_any k g cap w h (by omega)) (Lib.hid fun w => Xor_54 _ w (by omega)) (Lib.hid fun w => Xor_92 _ w (by omega))
    (Lib.hid fun w h => RSum_any g cap _ w h (by rw [List.length_append]; omega)) (Lib.hid fun w h => RSum_any g cap _ w h (by rw [List.length_append]; omega))
end Go.Proofs.YtihgglplbanegaaDoor
