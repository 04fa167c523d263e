/- head, numbers. -/
import Derived.Test.YtdjehpbkkbahcaaDoorGShaWa
import Derived.Test.YtdjehpbkkbahcaaDoorGPur
import Derived.Test.YtdjehpbkkbahcaaDoorGHmW
namespace Go.Proofs.YtdjehpbkkbahcaaDoor
open Go.RowKit

set_option maxRecDepth 100000 in
theorem head_any (l : List UInt8) (w : World) (hl : l.length ≤ 100000) :
    Calls Tryd.prog 46 #[.string ⟨⟨l⟩⟩] w fun e w' => e = .returned (.string ⟨⟨De.lab l⟩⟩) ∧ w = w' := by
  have hap : ByteArray.mk ⟨l⟩ ++ ByteArray.mk #[0] = ⟨⟨De.lab l⟩⟩ := str_app l [0]
  have hw : ¬ 9223372036854775807 < l.length + 1 := by omega
  go_enter Tryd.func46, Tryd.ntmps46
  go_wp2
  go_ret
  exact ⟨rfl, rfl⟩

theorem own_cap (w : World) (m : Nat) (h : m ≤ 100000000) : OwnB (w.alloc (.cells (bcells (List.replicate m 0)) 5)) w.heap.size (.slice (some ⟨w.heap.size, 0, none⟩) 0 m) [] := by
  refine ⟨rfl, .inr ⟨w.heap.size, m, bcells (List.replicate m 0), rfl, Nat.le_refl _, heap_alloc_new _ _, Nat.zero_le _, ?_, ?_, rfl⟩⟩
  · simp only [maxLen]; omega
  · simp [bcells]

set_option maxRecDepth 100000 in
set_option maxHeartbeats 1000000 in
theorem numbers_one (n : Int) (g : Nat) (w : World) (hr : w.heap[g]? = some (.cells #[.int .i64 n] 3 (0, 0))) :
    Calls Tryd.prog 47 #[.slice (some ⟨g, 0, none⟩) 1 1] w fun e w' => e = .returned (.string ⟨⟨De.num (De.un n)⟩⟩) ∧ Below w.heap.size w w' := by
  have hg : g < w.heap.size := (Array.getElem?_eq_some_iff.1 hr).1
  have HC : Hid (w.cell? ⟨g, 0, none⟩ = some (.int .i64 n)) := cell_of_row _ _ _ _ _ _ hr
  have hmk := make_cap 8 (by omega) w
  simp only [Int.cast_ofNat_Int] at hmk
  have HO := own_cap w 8 (by omega)
  have hb0 : Below w.heap.size w (w.alloc (.cells (bcells (List.replicate 8 0)) 5)) := (Below.refl _ _).alloc (Nat.le_refl _) _
  have hu : IntKind.u64.wrap n = ((De.un n : Nat) : Int) := by rw [IntKind.wrap_u64, De.un_cast]
  have HL := Lib.hid (De.num_length (De.un n))
  have HCS := Lib.hid (De.num_snoc (De.un n))
  clear hr
  generalize bcells (List.replicate 8 0) = zs at *
  generalize De.num (De.un n) = L at *
  generalize De.un n = c at *
  go_enter Tryd.func47, Tryd.ntmps47
  go_wp2
  go_loopw [3, 13] (fun v i wr => ∃ k : Nat, k ≤ 1 ∧ i = .int .i64 k ∧ OwnB wr w.heap.size v (L.take (8 * k)) ∧ Below w.heap.size w wr) (fun _ i _ => 1 - (intOf i).toNat)
  case atStart => exact ⟨0, by omega, rfl, HO, hb0⟩
  case round =>
    obtain ⟨k, hk, rfl, HO1, hb1⟩ := hrel
    clear HO hb0
    by_cases hlt : k < 1
    · obtain rfl : k = 0 := by omega
      have hcell := (hb1.cell (p := ⟨g, 0, none⟩) hg).trans HC.out
      rw [Int.ofNat_zero]
      go_wp2
      go_loopw [3, 17] (fun v i wr2 => ∃ m : Nat, m ≤ 8 ∧ i = .int .i64 m ∧ OwnB wr2 w.heap.size v (L.take m) ∧ Below w.heap.size w wr2) (fun _ i _ => 8 - (intOf i).toNat)
      case atStart => exact ⟨0, by omega, rfl, HO1, hb1⟩
      case round =>
        obtain ⟨m, hm, rfl, HO2, hb2⟩ := hrel
        clear HO1 hb1 hcell
        by_cases hlm : m < 8
        · have hv : (c : Int) / 2 ^ (8 * (7 - m)) % 256 = ((Sh.byt (c / 2 ^ (8 * (7 - m)))).toNat : Nat) := by
            rw [Sh.byt, UInt8.toNat_ofNat']
            simp
          have HS := Lib.hid (HCS.out m hlm)
          have HL1 : Hid ((L.take m).length ≤ 8) := by rw [Hid, List.length_take, HL.out]; omega
          generalize Sh.byt (c / 2 ^ (8 * (7 - m))) = d at *
          have hz1 := hb2.size
          go_wp2_with (at_builtin; refine wpList_appB _ rfl (.tmp 20) (.tmp 28) rfl w.heap.size _ _ d rfl rfl HO2 (by have := HL1.out; omega) (by omega) ?_)
          intro v2 w2 HO3 hb3
          go_wp2
          go_roundw
          case rel => exact ⟨m + 1, by omega, by go_num, by rw [HS.out]; exact HO3, hb2.trans hb3⟩
          case measure => simp [intOf]; omega
        · obtain rfl : m = 8 := by omega
          go_wp2
          go_roundw
          case rel => exact ⟨1, by omega, by go_num, HO2, hb2⟩
          case measure => simp [intOf]
    · obtain rfl : k = 1 := by omega
      have ht : L.take (8 * 1) = L := List.take_of_length_le (by rw [HL.out]; omega)
      rw [ht] at HO1
      obtain ⟨g1, cap, cur, rfl, hgb, hcur, hcs⟩ := HO1.form (by rw [HL.out]; omega)
      have hcv := conv_any wr g1 cap L 5 (0, 0) cur hcur hcs
      clear hcs hcur ht
      go_wp2
      go_ret
      exact ⟨rfl, hb1⟩
end Go.Proofs.YtdjehpbkkbahcaaDoor

/- Key, Cipher, Sum, Long, Session: by what Mac answers. -/

namespace Go.Proofs.YtdjehpbkkbahcaaDoor
open Go.RowKit

/-- What Mac answers at this key and this text. -/
def MacIs (k s m : List UInt8) : Prop := ∀ w, Tabs w → Calls Tryd.prog 17 #[.string ⟨⟨k⟩⟩, .string ⟨⟨s⟩⟩] w fun e w' => e = .returned (.string ⟨⟨m⟩⟩) ∧ Below w.heap.size w w'

theorem new_int (n : Int) (w : World) : (w.alloc (.cells #[.int .i64 n] 3)).heap[w.heap.size]? = some (.cells #[.int .i64 n] 3 (0, 0)) := heap_alloc_new _ _

set_option maxRecDepth 100000 in
set_option maxHeartbeats 1000000 in
theorem dKey_by (b l m : List UInt8) (n : Int) (w : World) (HT : Tabs w) (hl : l.length ≤ 5000) (HM : Hid (MacIs b (De.txt l n) m)) :
    Calls Tryd.prog 29 #[.string ⟨⟨b⟩⟩, .int .i64 n, .string ⟨⟨l⟩⟩] w fun e w' => e = .returned (.string ⟨⟨m⟩⟩) ∧ Below w.heap.size w w' := by
  have HH := Lib.hid (head_any l w (by omega))
  have HN := Lib.hid fun g w h => numbers_one n g w h
  have hap : ByteArray.mk ⟨De.lab l⟩ ++ ByteArray.mk ⟨De.num (De.un n)⟩ = ⟨⟨De.txt l n⟩⟩ := str_app _ _
  have hw : ¬ 9223372036854775807 < (De.lab l).length + (De.num (De.un n)).length := by rw [De.lab_length, De.num_length]; omega
  generalize De.lab l = x at *
  generalize De.num (De.un n) = y at *
  generalize De.txt l n = t at *
  go_enter Tryd.func29, Tryd.ntmps29
  go_wp2_with fail
  refine HH.out.mono ?_
  rintro _ w1 ⟨rfl, rfl⟩
  go_wp2_with fail
  refine (HN.out _ _ (new_int n w)).mono ?_
  rintro _ w2 ⟨rfl, hb2⟩
  have b1 : Below w.heap.size w (w.alloc (.cells #[.int .i64 n] 3)) := (Below.refl _ _).alloc (Nat.le_refl _) _
  have b2 := b1.trans (hb2.mono b1.size)
  clear hb2 b1 HH HN
  go_wp2_with fail
  refine (HM.out _ (HT.below b2)).mono ?_
  rintro _ w3 ⟨rfl, hb3⟩
  have b3 := b2.trans (hb3.mono b2.size)
  clear hb3 b2
  go_wp2
  go_ret
  exact ⟨rfl, b3⟩

/-- What Key answers. -/
def KeyIs (b : List UInt8) (n : Int) (l m : List UInt8) : Prop := ∀ w, Tabs w → Calls Tryd.prog 29 #[.string ⟨⟨b⟩⟩, .int .i64 n, .string ⟨⟨l⟩⟩] w fun e w' => e = .returned (.string ⟨⟨m⟩⟩) ∧ Below w.heap.size w w'

set_option maxRecDepth 100000 in
theorem dCipher_by (b m : List UInt8) (n : Int) (w : World) (HT : Tabs w) (hm : m.length = 32) (HK : Hid (KeyIs b n [99, 105, 112, 104, 101, 114] m)) :
    Calls Tryd.prog 39 #[.string ⟨⟨b⟩⟩, .int .i64 n] w fun e w' => e = .returned (.string ⟨⟨m.take 16⟩⟩) ∧ Below w.heap.size w w' := by
  have hc : (ByteArray.mk ⟨m⟩).extract 0 16 = ⟨⟨m.take 16⟩⟩ := by rw [cut_str, List.drop_zero]
  have h1 : 16 ≤ (m.length : Int) := by omega
  have h2 : 16 ≤ m.length := by omega
  generalize m.take 16 = q at *
  clear hm
  go_enter Tryd.func39, Tryd.ntmps39
  go_wp2_with fail
  refine (HK.out _ HT).mono ?_
  rintro _ w1 ⟨rfl, b1⟩
  clear HK
  go_wp2
  go_ret
  exact ⟨rfl, b1⟩

set_option maxRecDepth 100000 in
theorem dSum_by (b m : List UInt8) (n : Int) (w : World) (HT : Tabs w) (HK : Hid (KeyIs b n [115, 117, 109] m)) :
    Calls Tryd.prog 18 #[.string ⟨⟨b⟩⟩, .int .i64 n] w fun e w' => e = .returned (.string ⟨⟨m⟩⟩) ∧ Below w.heap.size w w' := by
  go_enter Tryd.func18, Tryd.ntmps18
  go_wp2_with fail
  refine (HK.out _ HT).mono ?_
  rintro _ w1 ⟨rfl, b1⟩
  clear HK
  go_wp2
  go_ret
  exact ⟨rfl, b1⟩

end Go.Proofs.YtdjehpbkkbahcaaDoor

/- The calls at any argument; works. -/

namespace Go.Proofs.YtdjehpbkkbahcaaDoor
open Go.RowKit

theorem macIs (k s : List UInt8) (hk : k.length ≤ 10000) (hs : s.length ≤ 10000) : MacIs k s (Hm.mac k s) := fun w h => Mac_any k s w h hk hs
theorem keyIs (b l : List UInt8) (n : Int) (hb : b.length ≤ 10000) (hl : l.length ≤ 5000) : KeyIs b n l (De.key b n l) := fun w h =>
  dKey_by b l _ n w h hl (Lib.hid (macIs b _ hb (by rw [De.txt_length]; omega)))
theorem dCipher_any (b : List UInt8) (n : Int) (w : World) (HT : Tabs w) (hb : b.length ≤ 10000) :
    Calls Tryd.prog 39 #[.string ⟨⟨b⟩⟩, .int .i64 n] w fun e w' => e = .returned (.string ⟨⟨(De.key b n [99, 105, 112, 104, 101, 114]).take 16⟩⟩) ∧ Below w.heap.size w w' :=
  dCipher_by b _ n w HT (De.key_length _ _ _) (Lib.hid (keyIs b _ n hb (by decide)))
theorem dSum_any (b : List UInt8) (n : Int) (w : World) (HT : Tabs w) (hb : b.length ≤ 10000) :
    Calls Tryd.prog 18 #[.string ⟨⟨b⟩⟩, .int .i64 n] w fun e w' => e = .returned (.string ⟨⟨De.key b n [115, 117, 109]⟩⟩) ∧ Below w.heap.size w w' :=
  dSum_by b _ n w HT (Lib.hid (keyIs b _ n hb (by decide)))
end Go.Proofs.YtdjehpbkkbahcaaDoor

