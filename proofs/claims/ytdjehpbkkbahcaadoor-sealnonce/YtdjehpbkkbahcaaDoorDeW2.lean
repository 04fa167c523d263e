/- Key, Cipher, Sum, Long, Session: by what Mac answers. -/
import Derived.Test.YtdjehpbkkbahcaaDoorDeW1
namespace Go.Proofs.YtdjehpbkkbahcaaDoor
open Go.RowKit

/-- What Mac answers at this key and this text. -/
def MacIs (k s m : List UInt8) : Prop := ∀ w, Tabs w → Calls Tryd.prog 17 #[.string ⟨⟨k⟩⟩, .string ⟨⟨s⟩⟩] w fun e w' => e = .returned (.string ⟨⟨m⟩⟩) ∧ Below w.heap.size w w'

theorem new_int (n : Int) (w : World) : (w.alloc (.cells #[.int .i64 n] 3)).heap[w.heap.size]? = some (.cells #[.int .i64 n] 3 (0, 0)) := heap_alloc_new _ _

set_option maxRecDepth 100000 in
set_option maxHeartbeats 1000000 in
theorem dKey_by (b l m : List UInt8) (n : Int) (w : World) (HT : Tabs w) (hl : l.length ≤ 5000) (HM : Hid (MacIs b (De.txt l n) m)) :
    Calls Tryd.prog 29 #[.string ⟨⟨b⟩⟩, .int .i64 n, .string ⟨⟨l⟩⟩] w fun e w' => e = .returned (.string ⟨⟨m⟩⟩) ∧ Below w.heap.size w w' := by
  have HH := Lib.hid (head_any l w (by omega))
  have HN := Lib.hid fun g w h => numbers_one n g w h
  have hap : ByteArray.mk ⟨De.lab l⟩ ++ ByteArray.mk ⟨De.num (De.un n)⟩ = ⟨⟨De.txt l n⟩⟩ := str_app _ _
  have hw : ¬ 9223372036854775807 < (De.lab l).length + (De.num (De.un n)).length := by rw [De.lab_length, De.num_length]; omega
  generalize De.lab l = x at *
  generalize De.num (De.un n) = y at *
  generalize De.txt l n = t at *
  go_enter Tryd.func29, Tryd.ntmps29
  go_wp2_with fail
  refine HH.out.mono ?_
  rintro _ w1 ⟨rfl, rfl⟩
  go_wp2_with fail
  refine (HN.out _ _ (new_int n w)).mono ?_
  rintro _ w2 ⟨rfl, hb2⟩
  have b1 : Below w.heap.size w (w.alloc (.cells #[.int .i64 n] 3)) := (Below.refl _ _).alloc (Nat.le_refl _) _
  have b2 := b1.trans (hb2.mono b1.size)
  clear hb2 b1 HH HN
  go_wp2_with fail
  refine (HM.out _ (HT.below b2)).mono ?_
  rintro _ w3 ⟨rfl, hb3⟩
  have b3 := b2.trans (hb3.mono b2.size)
  clear hb3 b2
  go_wp2
  go_ret
  exact ⟨rfl, b3⟩

/-- What Key answers. -/
def KeyIs (b : List UInt8) (n : Int) (l m : List UInt8) : Prop := ∀ w, Tabs w → Calls Tryd.prog 29 #[.string ⟨⟨b⟩⟩, .int .i64 n, .string ⟨⟨l⟩⟩] w fun e w' => e = .returned (.string ⟨⟨m⟩⟩) ∧ Below w.heap.size w w'

set_option maxRecDepth 100000 in
theorem dCipher_by (b m : List UInt8) (n : Int) (w : World) (HT : Tabs w) (hm : m.length = 32) (HK : Hid (KeyIs b n [99, 105, 112, 104, 101, 114] m)) :
    Calls Tryd.prog 39 #[.string ⟨⟨b⟩⟩, .int .i64 n] w fun e w' => e = .returned (.string ⟨⟨m.take 16⟩⟩) ∧ Below w.heap.size w w' := by
  have hc : (ByteArray.mk ⟨m⟩).extract 0 16 = ⟨⟨m.take 16⟩⟩ := by rw [cut_str, List.drop_zero]
  have h1 : 16 ≤ (m.length : Int) := by omega
  have h2 : 16 ≤ m.length := by omega
  generalize m.take 16 = q at *
  clear hm
  go_enter Tryd.func39, Tryd.ntmps39
  go_wp2_with fail
  refine (HK.out _ HT).mono ?_
  rintro _ w1 ⟨rfl, b1⟩
  clear HK
  go_wp2
  go_ret
  exact ⟨rfl, b1⟩

set_option maxRecDepth 100000 in
theorem dSum_by (b m : List UInt8) (n : Int) (w : World) (HT : Tabs w) (HK : Hid (KeyIs b n [115, 117, 109] m)) :
    Calls Tryd.prog 18 #[.string ⟨⟨b⟩⟩, .int .i64 n] w fun e w' => e = .returned (.string ⟨⟨m⟩⟩) ∧ Below w.heap.size w w' := by
  go_enter Tryd.func18, Tryd.ntmps18
  go_wp2_with fail
  refine (HK.out _ HT).mono ?_
  rintro _ w1 ⟨rfl, b1⟩
  clear HK
  go_wp2
  go_ret
  exact ⟨rfl, b1⟩

end Go.Proofs.YtdjehpbkkbahcaaDoor
