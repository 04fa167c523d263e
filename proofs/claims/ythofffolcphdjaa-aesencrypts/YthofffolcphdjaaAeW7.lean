/- Swap, Expand. -/
import Derived.Test.YthofffolcphdjaaAeW6
namespace Go.Proofs.Ythofffolcphdjaa
open Go.RowKit

/-- A table of its own, made by a call and laid into a new block. -/
theorem infoSB : (Try.prog.info? 37).map (·.size) = some (bcells Ae.SB).size := by rw [infoA256, bcells_size, SB_length]
theorem sizeSB : (bcells (List.replicate 256 0)).size = (bcells Ae.SB).size := by rw [noughts_size, bcells_size, SB_length]
theorem tabNew (W : World) : TabAt (W.alloc (.cells (bcells Ae.SB) 37)) W.heap.size := heap_alloc_new W _

set_option maxRecDepth 100000 in
theorem Swap_any (a : UInt8) (w : World) :
    Calls Try.prog 12 #[.int .u8 (a.toNat : Nat)] w fun e w' => e = .returned (.int .u8 ((Ae.sw a).toNat : Nat)) ∧ Below w.heap.size w w' := by
  have HSW := Lib.hid swaps_any
  have hz := zeroA256
  have hne := noughtsA_ne 256 (by decide)
  have HZ := Lib.hid sizeSB
  have HI := Lib.hid infoSB
  have HONE := Lib.hid (bcells_one Ae.SB)
  have HTA := Lib.hid fun (W : World) => (tabNew W).at a
  have ha : (a.toNat : Int) < 256 := by have := UInt8.toNat_lt a; omega
  generalize bcells (List.replicate 256 0) = zs at *
  generalize Ae.sw a = r at *
  generalize bcells Ae.SB = S at *
  go_enter Try.func12, Try.ntmps12
  go_wp2_with fail
  refine (HSW.out _).mono ?_
  rintro _ w1 ⟨rfl, hb1⟩
  have hc := HTA.out w1
  go_wp2_with (refine wpList_store_row rfl 37 (.tmp 3) (.tmp 4) rfl w1.heap.size S rfl rfl 37 _ (heap_alloc_new _ _) HI.out HZ.out HONE.out ?_; rw [World.setRow_alloc_new])
  go_ret
  exact ⟨rfl, hb1.alloc hb1.size _⟩

set_option maxRecDepth 100000 in
theorem Expand_no (k : List UInt8) (w : World) (h : k.length ≠ 16) :
    Calls Try.prog 17 #[.string ⟨⟨k⟩⟩] w fun e w' => e = .returned (.string ⟨⟨[]⟩⟩) ∧ w = w' := by
  have e1 : ((k.length : Int) != 16) = true := by simp; omega
  have e2 : (k.length != 16) = true := by simpa using h
  clear h
  go_enter Try.func17, Try.ntmps17
  go_wp2
  go_ret
  exact ⟨rfl, rfl⟩

set_option maxRecDepth 100000 in
theorem Expand_yes (k : List UInt8) (w : World) (h : k.length = 16) :
    Calls Try.prog 17 #[.string ⟨⟨k⟩⟩] w fun e w' => e = .returned (.string ⟨⟨Ae.ex k⟩⟩) ∧ Below w.heap.size w w' := by
  have e1 : ((k.length : Int) != 16) = false := by simp [h]
  have e2 : (k.length != 16) = false := by simp [h]
  have HSW := Lib.hid swaps_any
  have hz := zeroA256
  have hz2 := zeroA176
  have hne := noughtsA_ne 256 (by decide)
  have hne2 := noughtsA_ne 176 (by decide)
  have HZ := Lib.hid sizeSB
  have HI := Lib.hid infoSB
  have HONE := Lib.hid (bcells_one Ae.SB)
  have HTN := Lib.hid tabNew
  have HEX := Lib.hid fun gt W (ht : TabAt W gt) => expanded_any k gt W h ht
  have HL := Lib.hid (Ae.ex_length k h)
  have HI2 : Hid ((Try.prog.info? 39).map (·.size) = some (bcells (Ae.ex k)).size) := by rw [Hid, infoA176, bcells_size, HL.out]
  have HZ2 : Hid ((bcells (List.replicate 176 0)).size = (bcells (Ae.ex k)).size) := by rw [Hid, noughts_size, bcells_size, HL.out]
  have HCV : Hid (∀ W : World, (convert 27 9 (.slice (some ⟨W.heap.size, 0, none⟩) 176 176)).run Try.prog (W.alloc (.cells (bcells (Ae.ex k)) 39)) = .ok (.string ⟨⟨Ae.ex k⟩⟩) (W.alloc (.cells (bcells (Ae.ex k)) 39))) := Lib.hid fun W => by
    have := conv_any (W.alloc (.cells (bcells (Ae.ex k)) 39)) W.heap.size 176 (Ae.ex k) 39 (0, 0) _ (heap_alloc_new _ _) (fun j hj => bcells_at _ j hj)
    rw [HL.out] at this
    exact this
  generalize Ae.ex k = E at *
  generalize bcells (List.replicate 256 0) = zs at *
  generalize bcells (List.replicate 176 0) = zs2 at *
  generalize bcells Ae.SB = S at *
  clear h
  go_enter Try.func17, Try.ntmps17
  go_wp2_with fail
  refine (HSW.out _).mono ?_
  rintro _ w1 ⟨rfl, hb1⟩
  go_wp2_with (refine wpList_store_row rfl 37 (.tmp 3) (.tmp 8) rfl w1.heap.size S rfl rfl 37 _ (heap_alloc_new _ _) HI.out HZ.out HONE.out ?_; rw [World.setRow_alloc_new])
  have htab := HTN.out w1
  have b2 := hb1.alloc hb1.size (.cells S 37)
  refine (HEX.out _ _ htab).mono ?_
  rintro _ w3 ⟨rfl, hb3⟩
  have b3 := b2.trans (hb3.mono b2.size)
  have hcv := HCV.out w3
  clear htab hb3 b2 hb1 HSW HTN HEX
  go_wp2_with (refine wpList_store_row rfl 39 (.tmp 4) (.tmp 10) rfl w3.heap.size (bcells E) rfl rfl 39 _ (heap_alloc_new _ _) HI2.out HZ2.out (bcells_one _) ?_; rw [World.setRow_alloc_new])
  go_ret
  exact ⟨rfl, b3.alloc b3.size _⟩
end Go.Proofs.Ythofffolcphdjaa
