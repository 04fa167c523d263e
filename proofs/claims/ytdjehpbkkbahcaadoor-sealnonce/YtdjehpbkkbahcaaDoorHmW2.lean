/- with, changed. -/
import Derived.Test.YtdjehpbkkbahcaaDoorHmW1
namespace Go.Proofs.YtdjehpbkkbahcaaDoor
open Go.RowKit

theorem boxed8 (x : Nat) (w : World) : (w.alloc (.cells #[.int .u8 x] 5)).cell? ⟨w.heap.size, 0, none⟩ = some (.int .u8 x) := cell_of_row _ _ 0 _ 5 (0, 0) (heap_alloc_new w _)

set_option maxRecDepth 100000 in
theorem with_any (x : Nat) (w : World) :
    Calls Tryd.prog 34 #[.int .u8 x] w fun e w' => e = .returned (.func (.func 52) #[] #[.pointer (some ⟨w.heap.size, 0, none⟩)]) ∧ w.alloc (.cells #[.int .u8 x] 5) = w' := by
  go_enter Tryd.func34, Tryd.ntmps34
  go_wp2
  go_ret
  exact ⟨rfl, rfl⟩

theorem ret_u8 {a b : Int} (h : a = b) : Ending.returned (.int .u8 a) = .returned (.int .u8 b) := by rw [h]

set_option maxRecDepth 100000 in
theorem with1_any (b x : UInt8) (g : Nat) (w : World) (hc : w.cell? ⟨g, 0, none⟩ = some (.int .u8 (x.toNat : Nat))) :
    Calls Tryd.prog 52 #[.int .u8 (b.toNat : Nat), .pointer (some ⟨g, 0, none⟩)] w fun e w' => e = .returned (.int .u8 ((b ^^^ x).toNat : Nat)) ∧ w = w' := by
  have h1 : b.toNat < 256 := UInt8.toNat_lt _
  have h2 : x.toNat < 256 := UInt8.toNat_lt _
  have HX : Hid (bits BinOp.xor IntKind.u8 (b.toNat : Int) (x.toNat : Int) = ((b ^^^ x).toNat : Nat)) := by rw [Hid, u8_xor_nat _ _ h1 h2, UInt8.toNat_xor]
  go_enter Tryd.func52, Tryd.ntmps52
  go_wp2
  go_ret
  exact ⟨ret_u8 HX.out, rfl⟩

theorem xr_at (x : UInt8) (s : List UInt8) (k : Nat) (h : k < s.length) : (Hm.xr x s).getD k 0 = s[k] ^^^ x := by
  simp [Hm.xr, List.getD_eq_getElem?_getD, h]

set_option maxRecDepth 100000 in
theorem changed_any (s : List UInt8) (x : UInt8) (g : Nat) (w : World) (hs : s.length ≤ 1000000) (hc : w.cell? ⟨g, 0, none⟩ = some (.int .u8 (x.toNat : Nat))) :
    Calls Tryd.prog 33 #[.string ⟨⟨s⟩⟩, .func (.func 52) #[] #[.pointer (some ⟨g, 0, none⟩)]] w fun e w' => e = .returned (.string ⟨⟨Hm.xr x s⟩⟩) ∧ Below w.heap.size w w' := by
  have hmk := make_any s.length hs
  have HLX := Lib.hid (Hm.xr_length x s)
  have HAT := Lib.hid (xr_at x s)
  have hg : g < w.heap.size := block_lt_of_cell hc
  have HC := Lib.hid hc
  clear hc
  generalize Hm.xr x s = L at *
  go_enter Tryd.func33, Tryd.ntmps33
  go_wp2
  go_loopw [12] (fun i wr => ∃ k : Nat, k ≤ s.length ∧ i = .int .i64 (k : Nat) ∧ Below w.heap.size w wr ∧ Hid (wr.heap[w.heap.size]? = some (.cells (bcells (L.take k ++ List.replicate (s.length - k) 0)) 5 (0, 0)))) (fun i _ => s.length - (intOf i).toNat)
  case atStart => exact ⟨0, by omega, rfl, (Below.refl _ _).alloc (Nat.le_refl _) _, heap_alloc_new _ _⟩
  case round =>
    obtain ⟨k, hk, rfl, hb, HC1⟩ := hrel
    by_cases hlt : k < s.length
    · have hcell := brow_cell HC1.out HLX.out hlt
      have hfro := frozen_of_row _ _ k _ _ HC1.out
      have hby := byte_at s k hlt
      have hcg : wr.cell? ⟨g, 0, none⟩ = some (.int .u8 (x.toNat : Nat)) := (hb.cell (p := ⟨g, 0, none⟩) hg).trans HC.out
      have HV := Lib.hid (HAT.out k hlt)
      clear hmk
      go_wp2_with fail
      refine (with1_any s[k] x g wr hcg).mono ?_
      rintro _ w' ⟨rfl, rfl⟩
      rw [← HV.out]
      go_wp2
      go_roundw
      case rel => exact ⟨k + 1, by omega, by go_num, hb.setCell (Nat.le_refl _) _, brow_set HC1.out HLX.out hlt⟩
      case measure => simp [intOf]; omega
    · obtain rfl : k = s.length := by omega
      have hcr : wr.heap[w.heap.size]? = some (.cells (bcells L) 5 (0, 0)) := by
        have h := HC1.out
        rw [List.take_of_length_le (by rw [HLX.out]; omega), Nat.sub_self, List.replicate_zero, List.append_nil] at h
        exact h
      have hcv := conv_any wr w.heap.size s.length L 5 (0, 0) _ hcr (fun j hj => bcells_at L j hj)
      rw [HLX.out] at hcv
      clear hmk hcr
      go_wp2
      go_ret
      exact ⟨rfl, hb⟩
end Go.Proofs.YtdjehpbkkbahcaaDoor
