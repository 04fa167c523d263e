/- The document's answer: Key, Cipher, Sum, Long, Session. -/
import Derived.Test.YtihgglplbanegaaDoorDeV1
import Derived.Test.YtihgglplbanegaaDoorHmV2
namespace Go.Proofs.YtihgglplbanegaaDoor
open Go.RowKit

/-- What the document's Mac answers. -/
abbrev RMacIs (ts k s m : List UInt8) : Prop := ∀ g cap w, KeysAt w g cap → Calls Tryd.prog 24 #[.agg #[.slice (some ⟨g, 0, none⟩) 64 cap, .string ⟨⟨ts⟩⟩], .string ⟨⟨k⟩⟩, .string ⟨⟨s⟩⟩] w fun e w' => e = .returned (.string ⟨⟨m⟩⟩) ∧ Below w.heap.size w w'

set_option maxRecDepth 100000 in
set_option maxHeartbeats 1000000 in
theorem rKey_by (ts b l m : List UInt8) (n : Int) (g cap : Nat) (w : World) (HK : KeysAt w g cap) (hl : l.length ≤ 3000) (HM : Hid (RMacIs ts b (De.txt l n) m)) :
    Calls Tryd.prog 9 #[.agg #[.slice (some ⟨g, 0, none⟩) 64 cap, .string ⟨⟨ts⟩⟩], .string ⟨⟨b⟩⟩, .int .i64 n, .string ⟨⟨l⟩⟩] w fun e w' => e = .returned (.string ⟨⟨m⟩⟩) ∧ Below w.heap.size w w' := by
  have HN := Lib.hid fun W => refNumber_any n W
  have hap0 : ByteArray.mk ⟨l⟩ ++ ByteArray.mk #[0] = ⟨⟨De.lab l⟩⟩ := str_app l [0]
  have hap : ByteArray.mk ⟨De.lab l⟩ ++ ByteArray.mk ⟨De.num (De.un n)⟩ = ⟨⟨De.txt l n⟩⟩ := str_app _ _
  have hw0 : ¬ 9223372036854775807 < l.length + 1 := by omega
  have hw : ¬ 9223372036854775807 < (De.lab l).length + (De.num (De.un n)).length := by rw [De.lab_length, De.num_length]; omega
  generalize De.txt l n = t at *
  generalize De.lab l = x at *
  generalize De.num (De.un n) = y at *
  obtain ⟨w1, hw1⟩ : ∃ w1, w1 = w.alloc (.cells #[.slice (some ⟨g, 0, none⟩) 64 cap, .string ⟨⟨ts⟩⟩] 25) := ⟨_, rfl⟩
  have b1 : Below w.heap.size w w1 := by rw [hw1]; exact (Below.refl _ _).alloc (Nat.le_refl _) _
  have K1 : Two w1 w.heap.size (.slice (some ⟨g, 0, none⟩) 64 cap) (.string ⟨⟨ts⟩⟩) := by
    rw [hw1]
    exact ⟨cell_of_row _ _ _ _ _ _ (heap_alloc_new _ _), cell_of_row _ _ _ _ _ _ (heap_alloc_new _ _)⟩
  have hz1 : w.heap.size < w1.heap.size := by rw [hw1]; simp
  have HK1 := HK.below b1
  have q0 := K1.1
  have q1 := K1.2
  go_enter Tryd.func9, Tryd.ntmps9
  go_wp2_with fail
  rw [← hw1]
  clear hw1
  go_region_held3 (fun w' => w'.cell? ⟨w.heap.size, 0, none⟩ = some (.slice (some ⟨g, 0, none⟩) 64 cap) ∧ w'.cell? ⟨w.heap.size, 1, none⟩ = some (.string ⟨⟨ts⟩⟩)) (first | (exact K3) | (exact K2) | go_keep)
    (first | (go_at_call 25; (with_reducible refine (HN.out _).mono ?_); rintro _ w2 ⟨rfl, hb2⟩; have K2 := twoB hb2 hz1 K1; have hz2 : w.heap.size < w2.heap.size := Nat.lt_of_lt_of_le hz1 hb2.size; have N2 : KeysAt w2 g cap := KeysAt.below (by first | exact HK1 | exact HK1.drew) hb2) | (go_at_call 24; (with_reducible refine (HM.out _ _ _ (by first | exact N2 | exact N2.drew)).mono ?_); rintro _ w3 ⟨rfl, hb3⟩; have K3 := twoB hb3 hz2 K2))
  have b2 : Below w.heap.size w w2 := b1.trans ((undrew hb2).mono b1.size)
  have b3 := b2.trans (hb3.mono b2.size)
  clear hb2 hb3 b1 b2 K1 K2 K3 N2 HN HM q0 q1
  go_wp2
  go_ret
  exact ⟨rfl, b3⟩

/-- What the document's Key answers. -/
abbrev RKeyIs (ts b : List UInt8) (n : Int) (l m : List UInt8) : Prop := ∀ g cap w, KeysAt w g cap → Calls Tryd.prog 9 #[.agg #[.slice (some ⟨g, 0, none⟩) 64 cap, .string ⟨⟨ts⟩⟩], .string ⟨⟨b⟩⟩, .int .i64 n, .string ⟨⟨l⟩⟩] w fun e w' => e = .returned (.string ⟨⟨m⟩⟩) ∧ Below w.heap.size w w'

set_option maxRecDepth 100000 in
theorem rCipher_by (ts b m : List UInt8) (n : Int) (g cap : Nat) (w : World) (HK : KeysAt w g cap) (hm : m.length = 32) (HR : Hid (RKeyIs ts b n [99, 105, 112, 104, 101, 114] m)) :
    Calls Tryd.prog 11 #[.agg #[.slice (some ⟨g, 0, none⟩) 64 cap, .string ⟨⟨ts⟩⟩], .string ⟨⟨b⟩⟩, .int .i64 n] w fun e w' => e = .returned (.string ⟨⟨m.take 16⟩⟩) ∧ Below w.heap.size w w' := by
  have b0 : Below w.heap.size w (w.alloc (.cells #[.slice (some ⟨g, 0, none⟩) 64 cap, .string ⟨⟨ts⟩⟩] 25)) := (Below.refl _ _).alloc (Nat.le_refl _) _
  have hc : (ByteArray.mk ⟨m⟩).extract 0 16 = ⟨⟨m.take 16⟩⟩ := by rw [cut_str, List.drop_zero]
  have h1 : 16 ≤ (m.length : Int) := by omega
  have h2 : 16 ≤ m.length := by omega
  generalize m.take 16 = q at *
  clear hm
  go_enter Tryd.func11, Tryd.ntmps11
  go_wp2_with fail
  refine (HR.out _ _ _ (HK.below b0)).mono ?_
  rintro _ w1 ⟨rfl, hb1⟩
  have b1 := b0.trans (hb1.mono b0.size)
  clear HR hb1
  go_wp2
  go_ret
  exact ⟨rfl, b1⟩

set_option maxRecDepth 100000 in
theorem rSum_by (ts b m : List UInt8) (n : Int) (g cap : Nat) (w : World) (HK : KeysAt w g cap) (HR : Hid (RKeyIs ts b n [115, 117, 109] m)) :
    Calls Tryd.prog 13 #[.agg #[.slice (some ⟨g, 0, none⟩) 64 cap, .string ⟨⟨ts⟩⟩], .string ⟨⟨b⟩⟩, .int .i64 n] w fun e w' => e = .returned (.string ⟨⟨m⟩⟩) ∧ Below w.heap.size w w' := by
  have b0 : Below w.heap.size w (w.alloc (.cells #[.slice (some ⟨g, 0, none⟩) 64 cap, .string ⟨⟨ts⟩⟩] 25)) := (Below.refl _ _).alloc (Nat.le_refl _) _
  go_enter Tryd.func13, Tryd.ntmps13
  go_wp2_with fail
  refine (HR.out _ _ _ (HK.below b0)).mono ?_
  rintro _ w1 ⟨rfl, hb1⟩
  have b1 := b0.trans (hb1.mono b0.size)
  clear HR hb1
  go_wp2
  go_ret
  exact ⟨rfl, b1⟩

set_option maxRecDepth 100000 in
set_option maxHeartbeats 1000000 in
theorem rLong_by (ts a k m : List UInt8) (n : Int) (g cap : Nat) (w : World) (HK : KeysAt w g cap) (ha : a.length ≤ 3000) (HM : Hid (RMacIs ts k (De.txt [108, 111, 110, 103] n ++ a) m)) :
    Calls Tryd.prog 15 #[.agg #[.slice (some ⟨g, 0, none⟩) 64 cap, .string ⟨⟨ts⟩⟩], .string ⟨⟨a⟩⟩, .int .i64 n, .string ⟨⟨k⟩⟩] w fun e w' => e = .returned (.string ⟨⟨m⟩⟩) ∧ Below w.heap.size w w' := by
  have HN := Lib.hid fun W => refNumber_any n W
  have hap : ByteArray.mk #[108, 111, 110, 103, 0] ++ ByteArray.mk ⟨De.num (De.un n)⟩ = ⟨⟨De.txt [108, 111, 110, 103] n⟩⟩ := str_app (De.lab [108, 111, 110, 103]) _
  have hap2 : ByteArray.mk ⟨De.txt [108, 111, 110, 103] n⟩ ++ ByteArray.mk ⟨a⟩ = ⟨⟨De.txt [108, 111, 110, 103] n ++ a⟩⟩ := str_app _ _
  have hw : ¬ 9223372036854775807 < 5 + (De.num (De.un n)).length := by rw [De.num_length]; decide
  have hw2 : ¬ 9223372036854775807 < (De.txt [108, 111, 110, 103] n).length + a.length := by rw [De.txt_length]; simp; omega
  generalize De.txt [108, 111, 110, 103] n = t at *
  generalize De.num (De.un n) = y at *
  obtain ⟨w1, hw1⟩ : ∃ w1, w1 = w.alloc (.cells #[.slice (some ⟨g, 0, none⟩) 64 cap, .string ⟨⟨ts⟩⟩] 25) := ⟨_, rfl⟩
  have b1 : Below w.heap.size w w1 := by rw [hw1]; exact (Below.refl _ _).alloc (Nat.le_refl _) _
  have K1 : Two w1 w.heap.size (.slice (some ⟨g, 0, none⟩) 64 cap) (.string ⟨⟨ts⟩⟩) := by
    rw [hw1]
    exact ⟨cell_of_row _ _ _ _ _ _ (heap_alloc_new _ _), cell_of_row _ _ _ _ _ _ (heap_alloc_new _ _)⟩
  have hz1 : w.heap.size < w1.heap.size := by rw [hw1]; simp
  have HK1 := HK.below b1
  have q0 := K1.1
  have q1 := K1.2
  go_enter Tryd.func15, Tryd.ntmps15
  go_wp2_with fail
  rw [← hw1]
  clear hw1
  go_region_held3 (fun w' => w'.cell? ⟨w.heap.size, 0, none⟩ = some (.slice (some ⟨g, 0, none⟩) 64 cap) ∧ w'.cell? ⟨w.heap.size, 1, none⟩ = some (.string ⟨⟨ts⟩⟩)) (first | (exact K3) | (exact K2) | go_keep)
    (first | (go_at_call 25; (with_reducible refine (HN.out _).mono ?_); rintro _ w2 ⟨rfl, hb2⟩; have K2 := twoB hb2 hz1 K1; have hz2 : w.heap.size < w2.heap.size := Nat.lt_of_lt_of_le hz1 hb2.size; have N2 : KeysAt w2 g cap := KeysAt.below (by first | exact HK1 | exact HK1.drew) hb2) | (go_at_call 24; (with_reducible refine (HM.out _ _ _ (by first | exact N2 | exact N2.drew)).mono ?_); rintro _ w3 ⟨rfl, hb3⟩; have K3 := twoB hb3 hz2 K2))
  have b2 : Below w.heap.size w w2 := b1.trans ((undrew hb2).mono b1.size)
  have b3 := b2.trans (hb3.mono b2.size)
  clear hb2 hb3 b1 b2 K1 K2 K3 N2 HN HM q0 q1
  go_wp2
  go_ret
  exact ⟨rfl, b3⟩

set_option maxRecDepth 100000 in
set_option maxHeartbeats 1000000 in
theorem rSession_by (ts k m : List UInt8) (n : Int) (g cap : Nat) (w : World) (HK : KeysAt w g cap) (HM : Hid (RMacIs ts k (De.txt [115, 101, 115, 115, 105, 111, 110] n) m)) :
    Calls Tryd.prog 17 #[.agg #[.slice (some ⟨g, 0, none⟩) 64 cap, .string ⟨⟨ts⟩⟩], .int .i64 n, .string ⟨⟨k⟩⟩] w fun e w' => e = .returned (.string ⟨⟨m⟩⟩) ∧ Below w.heap.size w w' := by
  have HN := Lib.hid fun W => refNumber_any n W
  have hap : ByteArray.mk #[115, 101, 115, 115, 105, 111, 110, 0] ++ ByteArray.mk ⟨De.num (De.un n)⟩ = ⟨⟨De.txt [115, 101, 115, 115, 105, 111, 110] n⟩⟩ := str_app (De.lab [115, 101, 115, 115, 105, 111, 110]) _
  have hw : ¬ 9223372036854775807 < 8 + (De.num (De.un n)).length := by rw [De.num_length]; decide
  generalize De.txt [115, 101, 115, 115, 105, 111, 110] n = t at *
  generalize De.num (De.un n) = y at *
  obtain ⟨w1, hw1⟩ : ∃ w1, w1 = w.alloc (.cells #[.slice (some ⟨g, 0, none⟩) 64 cap, .string ⟨⟨ts⟩⟩] 25) := ⟨_, rfl⟩
  have b1 : Below w.heap.size w w1 := by rw [hw1]; exact (Below.refl _ _).alloc (Nat.le_refl _) _
  have K1 : Two w1 w.heap.size (.slice (some ⟨g, 0, none⟩) 64 cap) (.string ⟨⟨ts⟩⟩) := by
    rw [hw1]
    exact ⟨cell_of_row _ _ _ _ _ _ (heap_alloc_new _ _), cell_of_row _ _ _ _ _ _ (heap_alloc_new _ _)⟩
  have hz1 : w.heap.size < w1.heap.size := by rw [hw1]; simp
  have HK1 := HK.below b1
  have q0 := K1.1
  have q1 := K1.2
  go_enter Tryd.func17, Tryd.ntmps17
  go_wp2_with fail
  rw [← hw1]
  clear hw1
  go_region_held3 (fun w' => w'.cell? ⟨w.heap.size, 0, none⟩ = some (.slice (some ⟨g, 0, none⟩) 64 cap) ∧ w'.cell? ⟨w.heap.size, 1, none⟩ = some (.string ⟨⟨ts⟩⟩)) (first | (exact K3) | (exact K2) | go_keep)
    (first | (go_at_call 25; (with_reducible refine (HN.out _).mono ?_); rintro _ w2 ⟨rfl, hb2⟩; have K2 := twoB hb2 hz1 K1; have hz2 : w.heap.size < w2.heap.size := Nat.lt_of_lt_of_le hz1 hb2.size; have N2 : KeysAt w2 g cap := KeysAt.below (by first | exact HK1 | exact HK1.drew) hb2) | (go_at_call 24; (with_reducible refine (HM.out _ _ _ (by first | exact N2 | exact N2.drew)).mono ?_); rintro _ w3 ⟨rfl, hb3⟩; have K3 := twoB hb3 hz2 K2))
  have b2 : Below w.heap.size w w2 := b1.trans ((undrew hb2).mono b1.size)
  have b3 := b2.trans (hb3.mono b2.size)
  clear hb2 hb3 b1 b2 K1 K2 K3 N2 HN HM q0 q1
  go_wp2
  go_ret
  exact ⟨rfl, b3⟩

theorem rmacIs (k s : List UInt8) (hk : k.length ≤ 4000) (hs : s.length ≤ 4000) : RMacIs (Sh.txt Sh.start) k s (Hm.mac k s) := fun g cap w h => RMac_any k s g cap w h hk hs
theorem rkeyIs (b l : List UInt8) (n : Int) (hb : b.length ≤ 4000) (hl : l.length ≤ 3000) : RKeyIs (Sh.txt Sh.start) b n l (De.key b n l) := fun g cap w h =>
  rKey_by _ b l _ n g cap w h hl (Lib.hid (rmacIs b _ hb (by rw [De.txt_length]; omega)))
end Go.Proofs.YtihgglplbanegaaDoor
