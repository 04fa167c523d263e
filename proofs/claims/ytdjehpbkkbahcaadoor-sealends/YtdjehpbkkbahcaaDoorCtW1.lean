/- number. -/
import Derived.Test.YtdjehpbkkbahcaaDoorMkB
import Derived.Test.YtdjehpbkkbahcaaDoorShaW8
import Derived.Test.YtdjehpbkkbahcaaDoorCtPure
namespace Go.Proofs.YtdjehpbkkbahcaaDoor
open Go.RowKit

theorem conv_four (W : World) (c0 c1 c2 c3 : UInt8) : (convert 26 9 (.slice (some ⟨W.heap.size, 0, none⟩) 4 4)).run Tryd.prog (W.alloc (.cells #[.int .u8 (c0.toNat : Nat), .int .u8 (c1.toNat : Nat), .int .u8 (c2.toNat : Nat), .int .u8 (c3.toNat : Nat)] 5)) = .ok (.string ⟨⟨[c0, c1, c2, c3]⟩⟩) (W.alloc (.cells #[.int .u8 (c0.toNat : Nat), .int .u8 (c1.toNat : Nat), .int .u8 (c2.toNat : Nat), .int .u8 (c3.toNat : Nat)] 5)) :=
  conv_any _ _ 4 [c0, c1, c2, c3] 5 (0, 0) _ (heap_alloc_new W _) (fun j hj => bcells_at [c0, c1, c2, c3] j hj)

set_option maxRecDepth 100000 in
theorem number_any (n : Nat) (w : World) (hn : n < 4294967296) :
    Calls Tryd.prog 76 #[.int .u32 (n : Nat)] w fun e w' => e = .returned (.string ⟨⟨Ct.num n⟩⟩) ∧ Below w.heap.size w w' := by
  have d0 : (n : Int) / 16777216 = ((UInt8.ofNat (n / 16777216)).toNat : Nat) := by rw [UInt8.toNat_ofNat']; omega
  have d1 : (n : Int) / 65536 % 256 = ((UInt8.ofNat (n / 65536)).toNat : Nat) := by rw [UInt8.toNat_ofNat']; omega
  have d2 : (n : Int) / 256 % 256 = ((UInt8.ofNat (n / 256)).toNat : Nat) := by rw [UInt8.toNat_ofNat']; omega
  have d3 : (n : Int) % 256 = ((UInt8.ofNat n).toNat : Nat) := by rw [UInt8.toNat_ofNat']; omega
  have HN : Hid (Ct.num n = [UInt8.ofNat (n / 16777216), UInt8.ofNat (n / 65536), UInt8.ofNat (n / 256), UInt8.ofNat n]) := rfl
  generalize Ct.num n = L at *
  generalize UInt8.ofNat (n / 16777216) = c0 at *
  generalize UInt8.ofNat (n / 65536) = c1 at *
  generalize UInt8.ofNat (n / 256) = c2 at *
  generalize UInt8.ofNat n = c3 at *
  have hcv := conv_four w c0 c1 c2 c3
  go_enter Tryd.func76, Tryd.ntmps76
  go_wp2
  go_ret
  exact ⟨by rw [HN.out]; rfl, (Below.refl _ _).alloc (Nat.le_refl _) _⟩
end Go.Proofs.YtdjehpbkkbahcaaDoor
