/- The calls at any argument; works. -/
import Derived.Test.YtihgglplbanegaaDoorDeW2
import Derived.Test.YtihgglplbanegaaDoorHmW4
namespace Go.Proofs.YtihgglplbanegaaDoor
open Go.RowKit

theorem macIs (k s : List UInt8) (hk : k.length ≤ 10000) (hs : s.length ≤ 10000) : MacIs k s (Hm.mac k s) := fun w h => Mac_any k s w h hk hs
theorem keyIs (b l : List UInt8) (n : Int) (hb : b.length ≤ 10000) (hl : l.length ≤ 5000) : KeyIs b n l (De.key b n l) := fun w h =>
  dKey_by b l _ n w h hl (Lib.hid (macIs b _ hb (by rw [De.txt_length]; omega)))
theorem dCipher_any (b : List UInt8) (n : Int) (w : World) (HT : Tabs w) (hb : b.length ≤ 10000) :
    Calls Tryd.prog 10 #[.string ⟨⟨b⟩⟩, .int .i64 n] w fun e w' => e = .returned (.string ⟨⟨(De.key b n [99, 105, 112, 104, 101, 114]).take 16⟩⟩) ∧ Below w.heap.size w w' :=
  dCipher_by b _ n w HT (De.key_length _ _ _) (Lib.hid (keyIs b _ n hb (by decide)))
theorem dSum_any (b : List UInt8) (n : Int) (w : World) (HT : Tabs w) (hb : b.length ≤ 10000) :
    Calls Tryd.prog 12 #[.string ⟨⟨b⟩⟩, .int .i64 n] w fun e w' => e = .returned (.string ⟨⟨De.key b n [115, 117, 109]⟩⟩) ∧ Below w.heap.size w w' :=
  dSum_by b _ n w HT (Lib.hid (keyIs b _ n hb (by decide)))
theorem dLong_any (a k : List UInt8) (n : Int) (w : World) (HT : Tabs w) (ha : a.length ≤ 5000) (hk : k.length ≤ 10000) :
    Calls Tryd.prog 14 #[.string ⟨⟨a⟩⟩, .int .i64 n, .string ⟨⟨k⟩⟩] w fun e w' => e = .returned (.string ⟨⟨Hm.mac k (De.txt [108, 111, 110, 103] n ++ a)⟩⟩) ∧ Below w.heap.size w w' :=
  dLong_by a k _ n w HT ha (Lib.hid (macIs k _ hk (by rw [List.length_append, De.txt_length]; simp; omega)))
theorem dSession_any (k : List UInt8) (n : Int) (w : World) (HT : Tabs w) (hk : k.length ≤ 10000) :
    Calls Tryd.prog 16 #[.int .i64 n, .string ⟨⟨k⟩⟩] w fun e w' => e = .returned (.string ⟨⟨Hm.mac k (De.txt [115, 101, 115, 115, 105, 111, 110] n)⟩⟩) ∧ Below w.heap.size w w' :=
  dSession_by k _ n w HT (Lib.hid (macIs k _ hk (by rw [De.txt_length]; decide)))

set_option maxRecDepth 100000 in
set_option maxHeartbeats 1000000 in
theorem worksD_by (m1 m2 m3 m4 m5 : List UInt8) (w : World) (HT : Tabs w) (h1 : m1.length = 16) (h2 : m2.length = 32) (h3 : m3.length = 32) (h4 : m4.length = 32) (h5 : m5.length = 32)
    (H1 : Hid (∀ w, Tabs w → Calls Tryd.prog 10 #[.string ⟨#[107]⟩, .int .i64 1] w fun e w' => e = .returned (.string ⟨⟨m1⟩⟩) ∧ Below w.heap.size w w'))
    (H2 : Hid (∀ w, Tabs w → Calls Tryd.prog 12 #[.string ⟨#[107]⟩, .int .i64 1] w fun e w' => e = .returned (.string ⟨⟨m2⟩⟩) ∧ Below w.heap.size w w'))
    (H3 : Hid (∀ w, Tabs w → Calls Tryd.prog 8 #[.string ⟨#[107]⟩, .int .i64 1, .string ⟨#[120]⟩] w fun e w' => e = .returned (.string ⟨⟨m3⟩⟩) ∧ Below w.heap.size w w'))
    (H4 : Hid (∀ w, Tabs w → Calls Tryd.prog 14 #[.string ⟨#[97]⟩, .int .i64 1, .string ⟨#[115]⟩] w fun e w' => e = .returned (.string ⟨⟨m4⟩⟩) ∧ Below w.heap.size w w'))
    (H5 : Hid (∀ w, Tabs w → Calls Tryd.prog 16 #[.int .i64 1, .string ⟨#[115]⟩] w fun e w' => e = .returned (.string ⟨⟨m5⟩⟩) ∧ Below w.heap.size w w')) :
    Calls Tryd.prog 6 #[] w fun e w' => e = .returned (.bool true) ∧ Below w.heap.size w w' := by
  have e1 := (len_true h1).2.2.1
  have e2 := (len_true h2).2.2.1
  have e3 := (len_true h3).2.2.1
  have e4 := (len_true h4).2.2.1
  have e5 := (len_true h5).2.2.1
  simp only [Int.cast_ofNat_Int] at e1 e2 e3 e4 e5
  clear h1 h2 h3 h4 h5
  go_enter Tryd.func6, Tryd.ntmps6
  go_wp2_with fail
  refine (H1.out w HT).mono ?_
  rintro _ w1 ⟨rfl, b1⟩
  go_wp2_with fail
  refine (H2.out w1 (HT.below b1)).mono ?_
  rintro _ w2 ⟨rfl, hb2⟩
  have b2 := b1.trans (hb2.mono b1.size)
  clear hb2 b1
  go_wp2_with fail
  refine (H3.out w2 (HT.below b2)).mono ?_
  rintro _ w3 ⟨rfl, hb3⟩
  have b3 := b2.trans (hb3.mono b2.size)
  clear hb3 b2
  go_wp2_with fail
  refine (H4.out w3 (HT.below b3)).mono ?_
  rintro _ w4 ⟨rfl, hb4⟩
  have b4 := b3.trans (hb4.mono b3.size)
  clear hb4 b3
  go_wp2_with fail
  refine (H5.out w4 (HT.below b4)).mono ?_
  rintro _ w5 ⟨rfl, hb5⟩
  have b5 := b4.trans (hb5.mono b4.size)
  clear hb5 b4
  go_wp2
  go_ret
  exact ⟨rfl, b5⟩

theorem worksD_any (w : World) (HT : Tabs w) :
    Calls Tryd.prog 6 #[] w fun e w' => e = .returned (.bool true) ∧ Below w.heap.size w w' :=
  worksD_by _ _ _ _ _ w HT (by rw [List.length_take, De.key_length]; rfl) (De.key_length _ _ _) (De.key_length _ _ _) (Hm.mac_length _ _) (Hm.mac_length _ _)
    (Lib.hid fun w h => dCipher_any [107] 1 w h (by decide)) (Lib.hid fun w h => dSum_any [107] 1 w h (by decide)) (Lib.hid fun w h => keyIs [107] [120] 1 (by decide) (by decide) w h)
    (Lib.hid fun w h => dLong_any [97] [115] 1 w h (by decide) (by decide)) (Lib.hid fun w h => dSession_any [115] 1 w h (by decide))
end Go.Proofs.YtihgglplbanegaaDoor
