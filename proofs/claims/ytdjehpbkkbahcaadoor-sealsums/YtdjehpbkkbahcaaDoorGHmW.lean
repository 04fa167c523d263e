/- hmac.Equal. -/
import Derived.Test.YtdjehpbkkbahcaaDoorGShaWa
import Derived.Test.YtdjehpbkkbahcaaDoorGPur
import Derived.Test.YtdjehpbkkbahcaaDoorGShaWb
import Derived.Lib.BufferWrite
import Derived.Lib.SlBuf
namespace Go.Proofs.YtdjehpbkkbahcaaDoor
open Go.RowKit

theorem Equal_len (a b : List UInt8) (w : World) (h : a.length ≠ b.length) :
    Calls Tryd.prog 30 #[.string ⟨⟨a⟩⟩, .string ⟨⟨b⟩⟩] w fun e w' => e = .returned (.bool false) ∧ w = w' := by
  have e1 : ((a.length : Int) != (b.length : Int)) = true := by simp; omega
  have e2 : (a.length != b.length) = true := by simpa using h
  have e3 : (a.length == b.length) = false := by simpa using h
  clear h
  go_enter Tryd.func30, Tryd.ntmps30
  go_wp2
  go_ret
  exact ⟨rfl, rfl⟩

/-- What the loop has gathered: nought just where the texts are the same so far. -/
def Odd (a b : List UInt8) (k : Nat) (v : Value) : Prop := ∃ d : Nat, d < 256 ∧ v = .int .u8 (d : Nat) ∧ (d = 0 ↔ a.take k = b.take k)

theorem or_zero (x y : Nat) : x ||| y = 0 ↔ x = 0 ∧ y = 0 := Nat.or_eq_zero_iff
theorem xor_zero (x y : UInt8) : x.toNat ^^^ y.toNat = 0 ↔ x = y := by
  constructor
  · intro h
    apply UInt8.toNat_inj.1
    have := congrArg (· ^^^ y.toNat) h
    simpa [Nat.xor_assoc] using this
  · rintro rfl
    exact Nat.xor_self _

theorem odd_next (a b : List UInt8) (k d : Nat) (ha : k < a.length) (hb : k < b.length) (h : d = 0 ↔ a.take k = b.take k) :
    d ||| ((a[k]'ha).toNat ^^^ (b[k]'hb).toNat) = 0 ↔ a.take (k + 1) = b.take (k + 1) := by
  rw [or_zero, xor_zero, h, take_snoc a k ha, take_snoc b k hb]
  constructor
  · rintro ⟨h1, h2⟩
    rw [h1, h2]
  · intro hh
    have hl : (a.take k).length = (b.take k).length := by simp; omega
    obtain ⟨h1, h2⟩ := List.append_inj hh hl
    exact ⟨h1, by simpa using h2⟩

theorem belowN {B : Nat} {a w : World} (h : Below B a w) (n : Nat) : Below B a (w.drewN n) := h.trans ⟨rfl, rfl, rfl, Nat.le_refl _, fun _ _ => rfl⟩
theorem ret_bool {a b : Bool} (h : a = b) : Ending.returned (.bool a) = .returned (.bool b) := by rw [h]
theorem u8_lt_or {x y : Nat} (hx : x < 256) (hy : y < 256) : x ||| y < 256 := Nat.or_lt_two_pow (n := 8) hx hy
theorem u8_lt_xor {x y : Nat} (hx : x < 256) (hy : y < 256) : x ^^^ y < 256 := Nat.xor_lt_two_pow (n := 8) hx hy
theorem odd_val (d x y : Nat) (hd : d < 256) (hx : x < 256) (hy : y < 256) : bits BinOp.or IntKind.u8 (d : Int) (bits BinOp.xor IntKind.u8 (x : Int) (y : Int)) = ((d ||| (x ^^^ y) : Nat) : Int) := by
  rw [u8_xor_nat _ _ hx hy, u8_or_nat _ _ hd (u8_lt_xor hx hy)]

set_option maxRecDepth 100000 in
theorem Equal_same (a b : List UInt8) (w : World) (h : a.length = b.length) (hs : a.length ≤ 9223372036854775807) :
    Calls Tryd.prog 30 #[.string ⟨⟨a⟩⟩, .string ⟨⟨b⟩⟩] w fun e w' => e = .returned (.bool (decide (a = b))) ∧ Below w.heap.size w w' := by
  have H := Lib.hid h
  have hs2 : b.length ≤ 9223372036854775807 := by omega
  have e1 : ((a.length : Int) != (b.length : Int)) = false := by simp [h]
  have e2 : (a.length != b.length) = false := by simp [h]
  clear h
  go_enter Tryd.func30, Tryd.ntmps30
  go_wp2
  go_loopw [5, 14] (fun v i wr => ∃ k : Nat, k ≤ a.length ∧ i = .int .i64 (k : Nat) ∧ Odd a b k v ∧ Below w.heap.size w wr) (fun _ i _ => a.length - (intOf i).toNat)
  case atStart => exact ⟨0, by omega, rfl, ⟨0, by decide, rfl, by simp⟩, Below.refl _ _⟩
  case round =>
    obtain ⟨k, hk, rfl, ⟨d, hd, rfl, hz⟩, hb⟩ := hrel
    by_cases hlt : k < a.length
    · have hlb : k < b.length := by have := H.out; omega
      have hba := byte_at a k hlt
      have hbb := byte_at b k hlb
      have HZ := Lib.hid (odd_next a b k d hlt hlb hz)
      have hca : a[k].toNat < 256 := UInt8.toNat_lt _
      have hcb : b[k].toNat < 256 := UInt8.toNat_lt _
      have HV := Lib.hid (odd_val d a[k].toNat b[k].toNat hd hca hcb)
      clear hz
      go_wp2
      go_quiet (fail)
      go_wp2
      go_roundw
      case rel => exact ⟨k + 1, by omega, by go_num, ⟨_, u8_lt_or hd (u8_lt_xor hca hcb), congrArg (Value.int IntKind.u8) HV.out, HZ.out⟩, belowN hb _⟩
      case measure => simp [intOf]; omega
    · obtain rfl : k = a.length := by omega
      have hz2 : ((d : Int) == 0) = decide (a = b) := by
        rw [List.take_of_length_le (Nat.le_refl _), List.take_of_length_le (by have := H.out; omega)] at hz
        rw [Bool.eq_iff_iff, beq_iff_eq, decide_eq_true_iff, ← hz]
        omega
      have HZ := Lib.hid hz2
      clear hz hz2
      go_wp2
      go_ret
      exact ⟨ret_bool HZ.out, hb⟩

theorem Equal_any (a b : List UInt8) (w : World) (hs : a.length ≤ 9223372036854775807) :
    Calls Tryd.prog 30 #[.string ⟨⟨a⟩⟩, .string ⟨⟨b⟩⟩] w fun e w' => e = .returned (.bool (decide (a = b))) ∧ Below w.heap.size w w' := by
  by_cases h : a.length = b.length
  · exact Equal_same a b w h hs
  · rw [decide_eq_false (fun e => h (by rw [e]))]
    exact (Equal_len a b w h).mono fun _ _ ⟨he, hw⟩ => ⟨he, hw ▸ Below.refl _ _⟩
end Go.Proofs.YtdjehpbkkbahcaaDoor

/- with, changed. -/

namespace Go.Proofs.YtdjehpbkkbahcaaDoor
open Go.RowKit

theorem boxed8 (x : Nat) (w : World) : (w.alloc (.cells #[.int .u8 x] 5)).cell? ⟨w.heap.size, 0, none⟩ = some (.int .u8 x) := cell_of_row _ _ 0 _ 5 (0, 0) (heap_alloc_new w _)

set_option maxRecDepth 100000 in
theorem with_any (x : Nat) (w : World) :
    Calls Tryd.prog 34 #[.int .u8 x] w fun e w' => e = .returned (.func (.func 52) #[] #[.pointer (some ⟨w.heap.size, 0, none⟩)]) ∧ w.alloc (.cells #[.int .u8 x] 5) = w' := by
  go_enter Tryd.func34, Tryd.ntmps34
  go_wp2
  go_ret
  exact ⟨rfl, rfl⟩

theorem ret_u8 {a b : Int} (h : a = b) : Ending.returned (.int .u8 a) = .returned (.int .u8 b) := by rw [h]

set_option maxRecDepth 100000 in
theorem with1_any (b x : UInt8) (g : Nat) (w : World) (hc : w.cell? ⟨g, 0, none⟩ = some (.int .u8 (x.toNat : Nat))) :
    Calls Tryd.prog 52 #[.int .u8 (b.toNat : Nat), .pointer (some ⟨g, 0, none⟩)] w fun e w' => e = .returned (.int .u8 ((b ^^^ x).toNat : Nat)) ∧ w = w' := by
  have h1 : b.toNat < 256 := UInt8.toNat_lt _
  have h2 : x.toNat < 256 := UInt8.toNat_lt _
  have HX : Hid (bits BinOp.xor IntKind.u8 (b.toNat : Int) (x.toNat : Int) = ((b ^^^ x).toNat : Nat)) := by rw [Hid, u8_xor_nat _ _ h1 h2, UInt8.toNat_xor]
  go_enter Tryd.func52, Tryd.ntmps52
  go_wp2
  go_ret
  exact ⟨ret_u8 HX.out, rfl⟩

theorem xr_at (x : UInt8) (s : List UInt8) (k : Nat) (h : k < s.length) : (Hm.xr x s).getD k 0 = s[k] ^^^ x := by
  simp [Hm.xr, List.getD_eq_getElem?_getD, h]

set_option maxRecDepth 100000 in
theorem changed_any (s : List UInt8) (x : UInt8) (g : Nat) (w : World) (hs : s.length ≤ 1000000) (hc : w.cell? ⟨g, 0, none⟩ = some (.int .u8 (x.toNat : Nat))) :
    Calls Tryd.prog 33 #[.string ⟨⟨s⟩⟩, .func (.func 52) #[] #[.pointer (some ⟨g, 0, none⟩)]] w fun e w' => e = .returned (.string ⟨⟨Hm.xr x s⟩⟩) ∧ Below w.heap.size w w' := by
  have hmk := make_any s.length hs
  have HLX := Lib.hid (Hm.xr_length x s)
  have HAT := Lib.hid (xr_at x s)
  have hg : g < w.heap.size := block_lt_of_cell hc
  have HC := Lib.hid hc
  clear hc
  generalize Hm.xr x s = L at *
  go_enter Tryd.func33, Tryd.ntmps33
  go_wp2
  go_loopw [12] (fun i wr => ∃ k : Nat, k ≤ s.length ∧ i = .int .i64 (k : Nat) ∧ Below w.heap.size w wr ∧ Hid (wr.heap[w.heap.size]? = some (.cells (bcells (L.take k ++ List.replicate (s.length - k) 0)) 5 (0, 0)))) (fun i _ => s.length - (intOf i).toNat)
  case atStart => exact ⟨0, by omega, rfl, (Below.refl _ _).alloc (Nat.le_refl _) _, heap_alloc_new _ _⟩
  case round =>
    obtain ⟨k, hk, rfl, hb, HC1⟩ := hrel
    by_cases hlt : k < s.length
    · have hcell := brow_cell HC1.out HLX.out hlt
      have hfro := frozen_of_row _ _ k _ _ HC1.out
      have hby := byte_at s k hlt
      have hcg : wr.cell? ⟨g, 0, none⟩ = some (.int .u8 (x.toNat : Nat)) := (hb.cell (p := ⟨g, 0, none⟩) hg).trans HC.out
      have HV := Lib.hid (HAT.out k hlt)
      clear hmk
      go_wp2_with fail
      refine (with1_any s[k] x g wr hcg).mono ?_
      rintro _ w' ⟨rfl, rfl⟩
      rw [← HV.out]
      go_wp2
      go_roundw
      case rel => exact ⟨k + 1, by omega, by go_num, hb.setCell (Nat.le_refl _) _, brow_set HC1.out HLX.out hlt⟩
      case measure => simp [intOf]; omega
    · obtain rfl : k = s.length := by omega
      have hcr : wr.heap[w.heap.size]? = some (.cells (bcells L) 5 (0, 0)) := by
        have h := HC1.out
        rw [List.take_of_length_le (by rw [HLX.out]; omega), Nat.sub_self, List.replicate_zero, List.append_nil] at h
        exact h
      have hcv := conv_any wr w.heap.size s.length L 5 (0, 0) _ hcr (fun j hj => bcells_at L j hj)
      rw [HLX.out] at hcv
      clear hmk hcr
      go_wp2
      go_ret
      exact ⟨rfl, hb⟩
end Go.Proofs.YtdjehpbkkbahcaaDoor

/- hmac.Key. -/

namespace Go.Proofs.YtdjehpbkkbahcaaDoor
open Go.RowKit

theorem info5s : (Tryd.prog.info? 5).map (·.size) = some 1 := by kernel_rfl

theorem byteCells_eq (l : List UInt8) : Lib.byteCells l = bvals l := rfl

set_option maxRecDepth 100000 in
/-- copy(block[:], key). -/
theorem run_copyK (w : World) (ty t : TypeId) (g : Nat) (s : List UInt8) (hs : s.length ≤ 64) (h : w.heap[g]? = some (.cells (bcells (List.replicate 64 0)) t (0, 0))) :
    (Builtin.copy_ #[26, 9] ty #[.slice (some ⟨g, 0, none⟩) 64 64, .string ⟨⟨s⟩⟩]).run Tryd.prog w = .ok (goInt s.length) (w.setRow g (bcells (s ++ List.replicate (64 - s.length) 0))) := by
  have hz : (ByteArray.mk ⟨s⟩).size = s.length := rfl
  have hr := Lib.run_copy_row_string (P := Tryd.prog) w 26 9 ty 5 g 0 64 64 ⟨⟨s⟩⟩ _ t Tryd.underlying26 info5s h (by rw [hz]; exact hs) (by rw [hz]; simp [bcells]; omega)
  rw [hr, hz]
  congr 2
  apply Array.toList_inj.1
  simp only [bcells, List.map_append, List.map_replicate, List.take_zero, List.nil_append, Nat.zero_add, List.drop_replicate, Lib.byteCells]

/-- A block of 64 noughts with a text copied over its beginning. -/
theorem laidK (w : World) (ty t : TypeId) (s : List UInt8) (hs : s.length ≤ 64) :
    ∃ W, (Builtin.copy_ #[26, 9] ty #[.slice (some ⟨w.heap.size, 0, none⟩) 64 64, .string ⟨⟨s⟩⟩]).run Tryd.prog (w.alloc (.cells (bcells (List.replicate 64 0)) t)) = .ok (goInt s.length) W ∧
      W.heap[w.heap.size]? = some (.cells (bcells (s ++ List.replicate (64 - s.length) 0)) t (0, 0)) ∧ Below w.heap.size w W :=
  ⟨_, run_copyK _ ty t w.heap.size s hs (heap_alloc_new _ _), setRow_heap _ _ _ _ _ _ (heap_alloc_new _ _), below_setRow' ((Below.refl _ _).alloc (Nat.le_refl _) _) (Nat.le_refl _) _⟩

set_option maxRecDepth 100000 in
theorem Key_short (k : List UInt8) (w : World) (h : k.length ≤ 64) :
    Calls Tryd.prog 31 #[.string ⟨⟨k⟩⟩] w fun e w' => e = .returned (.string ⟨⟨k ++ List.replicate (64 - k.length) 0⟩⟩) ∧ Below w.heap.size w w' := by
  obtain ⟨W, hr, hw, hb⟩ := laidK w 3 61 k h
  have HL : Hid ((k ++ List.replicate (64 - k.length) 0).length = 64) := by rw [Hid, List.length_append, List.length_replicate]; omega
  generalize k ++ List.replicate (64 - k.length) 0 = L at *
  have hcv := conv_any W w.heap.size 64 L 61 (0, 0) _ hw (fun j hj => bcells_at L j hj)
  rw [HL.out] at hcv
  have HR := Lib.hid hr
  clear hr hw
  go_enter Tryd.func31, Tryd.ntmps31
  go_wp2_with (refine Lib.wpList_copy_run _ rfl (.tmp 9) (.tmp 10) 26 9 rfl _ _ rfl rfl HR.out ?_)
  go_ret
  exact ⟨rfl, hb⟩

set_option maxRecDepth 100000 in
theorem Key_long (k : List UInt8) (w : World) (HT : Tabs w) (hk : k.length ≤ 100000) (h : 64 < k.length) :
    Calls Tryd.prog 31 #[.string ⟨⟨k⟩⟩] w fun e w' => e = .returned (.string ⟨⟨Sh.sum k ++ List.replicate (64 - (Sh.sum k).length) 0⟩⟩) ∧ Below w.heap.size w w' := by
  have HS := Lib.hid fun W HT => Sum_any k W HT hk
  have hc : (Sh.sum k).length ≤ 64 := by rw [Hm.sum_length]; decide
  generalize Sh.sum k = c at *
  go_enter Tryd.func31, Tryd.ntmps31
  go_wp2_with fail
  refine (HS.out w HT).mono ?_
  rintro _ w1 ⟨rfl, hb1⟩
  obtain ⟨W, hr, hw, hb⟩ := laidK w1 3 61 c hc
  have HL : Hid ((c ++ List.replicate (64 - c.length) 0).length = 64) := by rw [Hid, List.length_append, List.length_replicate]; omega
  generalize hLE : c ++ List.replicate (64 - c.length) 0 = L at *
  have HLE := Lib.hid hLE
  clear hLE
  have hcv := conv_any W w1.heap.size 64 L 61 (0, 0) _ hw (fun j hj => bcells_at L j hj)
  rw [HL.out] at hcv
  have HR := Lib.hid hr
  have b := hb1.trans (hb.mono hb1.size)
  clear hr hw hb1 hb HS
  go_wp2_with (refine Lib.wpList_copy_run _ rfl (.tmp 9) (.tmp 10) 26 9 rfl _ _ rfl rfl HR.out ?_)
  go_ret
  exact ⟨by rw [HLE.out]; rfl, b⟩

theorem Key_any (k : List UInt8) (w : World) (HT : Tabs w) (hk : k.length ≤ 100000) :
    Calls Tryd.prog 31 #[.string ⟨⟨k⟩⟩] w fun e w' => e = .returned (.string ⟨⟨Hm.key k⟩⟩) ∧ Below w.heap.size w w' := by
  by_cases h : k.length ≤ 64
  · rw [Hm.key, Hm.cut_short h]
    exact Key_short k w h
  · rw [Hm.key, Hm.cut_long (by omega)]
    exact Key_long k w HT hk (by omega)
end Go.Proofs.YtdjehpbkkbahcaaDoor

/- hmac.Mac. -/

namespace Go.Proofs.YtdjehpbkkbahcaaDoor
open Go.RowKit

theorem xor_app (x : UInt8) (k s : List UInt8) : ByteArray.mk ⟨Hm.xr x k⟩ ++ ByteArray.mk ⟨s⟩ = ⟨⟨Hm.xr x k ++ s⟩⟩ := app_str _ _

set_option maxRecDepth 100000 in
theorem Mac_any (k s : List UInt8) (w : World) (HT : Tabs w) (hk : k.length ≤ 10000) (hs : s.length ≤ 10000) :
    Calls Tryd.prog 17 #[.string ⟨⟨k⟩⟩, .string ⟨⟨s⟩⟩] w fun e w' => e = .returned (.string ⟨⟨Hm.mac k s⟩⟩) ∧ Below w.heap.size w w' := by
  have HE : Hid (Hm.mac k s = Sh.sum (Hm.xr 92 (Hm.key k) ++ Sh.sum (Hm.xr 54 (Hm.key k) ++ s))) := Lib.hid rfl
  have HKL := Lib.hid (Hm.key_length k)
  have HKA := Lib.hid (Key_any k w HT (by omega))
  generalize Hm.key k = q at *
  go_enter Tryd.func17, Tryd.ntmps17
  go_wp2_with fail
  refine HKA.out.mono ?_
  rintro _ w1 ⟨rfl, hb1⟩
  clear HKA
  have hq : q.length ≤ 64 := by rw [HKL.out]; exact Nat.le_refl _
  go_wp2_with fail
  refine (with_any 54 w1).mono ?_
  rintro _ w2 ⟨rfl, hw2⟩
  have hb2 : Below w.heap.size w w2 := by rw [← hw2]; exact hb1.alloc hb1.size _
  have hc2 : w2.cell? ⟨w1.heap.size, 0, none⟩ = some (.int .u8 ((54 : UInt8).toNat : Nat)) := by rw [← hw2]; exact boxed8 54 w1
  have HC2 := Lib.hid hc2
  clear hw2 hc2 hb1
  go_wp2_with fail
  refine (changed_any q 54 _ w2 (by omega) HC2.out).mono ?_
  rintro _ w3 ⟨rfl, hb3⟩
  have b3 := hb2.trans (hb3.mono hb2.size)
  have hl1 : (Hm.xr 54 q).length ≤ 64 := by rw [Hm.xr_length]; exact hq
  have hap1 := xor_app 54 q s
  generalize Hm.xr 54 q = x1 at *
  clear hb3 hb2 HC2
  go_wp2_with fail
  refine (Sum_any (x1 ++ s) w3 (HT.below b3) (by rw [List.length_append]; omega)).mono ?_
  rintro _ w4 ⟨rfl, hb4⟩
  have b4 := b3.trans (hb4.mono b3.size)
  have hls : (Sh.sum (x1 ++ s)).length ≤ 32 := by rw [Hm.sum_length]; exact Nat.le_refl _
  generalize Sh.sum (x1 ++ s) = sm at *
  clear hb4 b3 hap1 hl1
  go_wp2_with fail
  refine (with_any 92 w4).mono ?_
  rintro _ w5 ⟨rfl, hw5⟩
  have b5 : Below w.heap.size w w5 := by rw [← hw5]; exact b4.alloc b4.size _
  have hc5 : w5.cell? ⟨w4.heap.size, 0, none⟩ = some (.int .u8 ((92 : UInt8).toNat : Nat)) := by rw [← hw5]; exact boxed8 92 w4
  have HC5 := Lib.hid hc5
  clear hw5 hc5 b4
  go_wp2_with fail
  refine (changed_any q 92 _ w5 (by omega) HC5.out).mono ?_
  rintro _ w6 ⟨rfl, hb6⟩
  have b6 := b5.trans (hb6.mono b5.size)
  have hl2 : (Hm.xr 92 q).length ≤ 64 := by rw [Hm.xr_length]; exact hq
  have hap2 := xor_app 92 q sm
  generalize Hm.xr 92 q = x2 at *
  clear hb6 b5 HC5
  go_wp2_with fail
  refine (Sum_any (x2 ++ sm) w6 (HT.below b6) (by rw [List.length_append]; omega)).mono ?_
  rintro _ w7 ⟨rfl, hb7⟩
  have b7 := b6.trans (hb7.mono b6.size)
  generalize Sh.sum (x2 ++ sm) = m at *
  clear hb7 b6 hap2 hl2
  go_wp2
  go_ret
  exact ⟨by rw [HE.out]; rfl, b7⟩

theorem Mac_jefe (w : World) (HT : Tabs w) :
    Calls Tryd.prog 17 #[.string ⟨#[74, 101, 102, 101]⟩, .string ⟨#[119, 104, 97, 116, 32, 100, 111, 32, 121, 97, 32, 119, 97, 110, 116, 32, 102, 111, 114, 32, 110, 111, 116, 104, 105, 110, 103, 63]⟩] w fun e w' => e = .returned (.string ⟨#[91, 220, 193, 70, 191, 96, 117, 78, 106, 4, 36, 38, 8, 149, 117, 199, 90, 0, 63, 8, 157, 39, 57, 131, 157, 236, 88, 185, 100, 236, 56, 67]⟩) ∧ Below w.heap.size w w' := by
  have h := Mac_any [74, 101, 102, 101] [119, 104, 97, 116, 32, 100, 111, 32, 121, 97, 32, 119, 97, 110, 116, 32, 102, 111, 114, 32, 110, 111, 116, 104, 105, 110, 103, 63] w HT (by decide) (by decide)
  rw [Hm.mac_jefe] at h
  exact h
end Go.Proofs.YtdjehpbkkbahcaaDoor

