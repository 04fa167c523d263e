/- hmac.Key. -/
import Derived.Test.YtdjehpbkkbahcaaDoorHmW2
import Derived.Test.YtdjehpbkkbahcaaDoorShaW10
import Derived.Lib.BufferWrite
import Derived.Lib.SlBuf
namespace Go.Proofs.YtdjehpbkkbahcaaDoor
open Go.RowKit

theorem info5s : (Tryd.prog.info? 5).map (·.size) = some 1 := by kernel_rfl

theorem byteCells_eq (l : List UInt8) : Lib.byteCells l = bvals l := rfl

set_option maxRecDepth 100000 in
/-- copy(block[:], key). -/
theorem run_copyK (w : World) (ty t : TypeId) (g : Nat) (s : List UInt8) (hs : s.length ≤ 64) (h : w.heap[g]? = some (.cells (bcells (List.replicate 64 0)) t (0, 0))) :
    (Builtin.copy_ #[26, 9] ty #[.slice (some ⟨g, 0, none⟩) 64 64, .string ⟨⟨s⟩⟩]).run Tryd.prog w = .ok (goInt s.length) (w.setRow g (bcells (s ++ List.replicate (64 - s.length) 0))) := by
  have hz : (ByteArray.mk ⟨s⟩).size = s.length := rfl
  have hr := Lib.run_copy_row_string (P := Tryd.prog) w 26 9 ty 5 g 0 64 64 ⟨⟨s⟩⟩ _ t Tryd.underlying26 info5s h (by rw [hz]; exact hs) (by rw [hz]; simp [bcells]; omega)
  rw [hr, hz]
  congr 2
  apply Array.toList_inj.1
  simp only [bcells, List.map_append, List.map_replicate, List.take_zero, List.nil_append, Nat.zero_add, List.drop_replicate, Lib.byteCells]

/-- A block of 64 noughts with a text copied over its beginning. -/
theorem laidK (w : World) (ty t : TypeId) (s : List UInt8) (hs : s.length ≤ 64) :
    ∃ W, (Builtin.copy_ #[26, 9] ty #[.slice (some ⟨w.heap.size, 0, none⟩) 64 64, .string ⟨⟨s⟩⟩]).run Tryd.prog (w.alloc (.cells (bcells (List.replicate 64 0)) t)) = .ok (goInt s.length) W ∧
      W.heap[w.heap.size]? = some (.cells (bcells (s ++ List.replicate (64 - s.length) 0)) t (0, 0)) ∧ Below w.heap.size w W :=
  ⟨_, run_copyK _ ty t w.heap.size s hs (heap_alloc_new _ _), setRow_heap _ _ _ _ _ _ (heap_alloc_new _ _), below_setRow' ((Below.refl _ _).alloc (Nat.le_refl _) _) (Nat.le_refl _) _⟩

set_option maxRecDepth 100000 in
theorem Key_short (k : List UInt8) (w : World) (h : k.length ≤ 64) :
    Calls Tryd.prog 31 #[.string ⟨⟨k⟩⟩] w fun e w' => e = .returned (.string ⟨⟨k ++ List.replicate (64 - k.length) 0⟩⟩) ∧ Below w.heap.size w w' := by
  obtain ⟨W, hr, hw, hb⟩ := laidK w 3 61 k h
  have HL : Hid ((k ++ List.replicate (64 - k.length) 0).length = 64) := by rw [Hid, List.length_append, List.length_replicate]; omega
  generalize k ++ List.replicate (64 - k.length) 0 = L at *
  have hcv := conv_any W w.heap.size 64 L 61 (0, 0) _ hw (fun j hj => bcells_at L j hj)
  rw [HL.out] at hcv
  have HR := Lib.hid hr
  clear hr hw
  go_enter Tryd.func31, Tryd.ntmps31
  go_wp2_with (refine Lib.wpList_copy_run _ rfl (.tmp 9) (.tmp 10) 26 9 rfl _ _ rfl rfl HR.out ?_)
  go_ret
  exact ⟨rfl, hb⟩

set_option maxRecDepth 100000 in
theorem Key_long (k : List UInt8) (w : World) (HT : Tabs w) (hk : k.length ≤ 100000) (h : 64 < k.length) :
    Calls Tryd.prog 31 #[.string ⟨⟨k⟩⟩] w fun e w' => e = .returned (.string ⟨⟨Sh.sum k ++ List.replicate (64 - (Sh.sum k).length) 0⟩⟩) ∧ Below w.heap.size w w' := by
  have HS := Lib.hid fun W HT => Sum_any k W HT hk
  have hc : (Sh.sum k).length ≤ 64 := by rw [Hm.sum_length]; decide
  generalize Sh.sum k = c at *
  go_enter Tryd.func31, Tryd.ntmps31
  go_wp2_with fail
  refine (HS.out w HT).mono ?_
  rintro _ w1 ⟨rfl, hb1⟩
  obtain ⟨W, hr, hw, hb⟩ := laidK w1 3 61 c hc
  have HL : Hid ((c ++ List.replicate (64 - c.length) 0).length = 64) := by rw [Hid, List.length_append, List.length_replicate]; omega
  generalize hLE : c ++ List.replicate (64 - c.length) 0 = L at *
  have HLE := Lib.hid hLE
  clear hLE
  have hcv := conv_any W w1.heap.size 64 L 61 (0, 0) _ hw (fun j hj => bcells_at L j hj)
  rw [HL.out] at hcv
  have HR := Lib.hid hr
  have b := hb1.trans (hb.mono hb1.size)
  clear hr hw hb1 hb HS
  go_wp2_with (refine Lib.wpList_copy_run _ rfl (.tmp 9) (.tmp 10) 26 9 rfl _ _ rfl rfl HR.out ?_)
  go_ret
  exact ⟨by rw [HLE.out]; rfl, b⟩

theorem Key_any (k : List UInt8) (w : World) (HT : Tabs w) (hk : k.length ≤ 100000) :
    Calls Tryd.prog 31 #[.string ⟨⟨k⟩⟩] w fun e w' => e = .returned (.string ⟨⟨Hm.key k⟩⟩) ∧ Below w.heap.size w w' := by
  by_cases h : k.length ≤ 64
  · rw [Hm.key, Hm.cut_short h]
    exact Key_short k w h
  · rw [Hm.key, Hm.cut_long (by omega)]
    exact Key_long k w HT hk (by omega)
end Go.Proofs.YtdjehpbkkbahcaaDoor
