/- powersOfThree. -/
import Derived.Test.YtdjehpbkkbahcaaDoorMkB
import Derived.Test.YtdjehpbkkbahcaaDoorAeW1
import Derived.WalkMore
import Derived.ScopeJumps
import Derived.Deep.RegionWith
import Derived.Deep.WholeRow
namespace Go.Proofs.YtdjehpbkkbahcaaDoor
open Go.RowKit

theorem bcells_one (l : List UInt8) : (bcells l).all (·.oneCell') = true := by
  simp [bcells, Value.oneCell']
theorem infoA255 : (Tryd.prog.info? 106).map (·.size) = some 255 := by kernel_rfl
theorem infoA256 : (Tryd.prog.info? 94).map (·.size) = some 256 := by kernel_rfl
theorem infoA176 : (Tryd.prog.info? 96).map (·.size) = some 176 := by kernel_rfl
theorem infoA16 : (Tryd.prog.info? 100).map (·.size) = some 16 := by kernel_rfl
theorem infoA4 : (Tryd.prog.info? 108).map (·.size) = some 4 := by kernel_rfl

theorem zeroA255 : ∀ w, (zeroValue 106).run Tryd.prog w = .ok (.agg (bcells (List.replicate 255 0))) w := (zero_of_info (P := Tryd.prog) (n := 255) (by kernel_rfl)).1
theorem zeroA256 : ∀ w, (zeroValue 94).run Tryd.prog w = .ok (.agg (bcells (List.replicate 256 0))) w := (zero_of_info (P := Tryd.prog) (n := 256) (by kernel_rfl)).1
theorem zeroA176 : ∀ w, (zeroValue 96).run Tryd.prog w = .ok (.agg (bcells (List.replicate 176 0))) w := (zero_of_info (P := Tryd.prog) (n := 176) (by kernel_rfl)).1
theorem noughtsA_ne (n : Nat) (h : 0 < n) : ¬ bcells (List.replicate n 0) = #[] := fun e => by
  have := congrArg Array.size e
  rw [bcells_size, List.length_replicate] at this
  simp at this
  omega

theorem PW_length : Ae.PW.length = 255 := by simp [Ae.PW]
theorem PW_at (k : Nat) (h : k < 255) : Ae.PW.getD k 0 = Ae.pw k := by simp [Ae.PW, List.getD_eq_getElem?_getD, h]

set_option maxRecDepth 100000 in
theorem powers_any (w : World) :
    Calls Tryd.prog 91 #[] w fun e w' => e = .returned (.agg (bcells Ae.PW)) ∧ Below w.heap.size w w' := by
  have HL := Lib.hid PW_length
  have HAT := Lib.hid PW_at
  have HP0 : Hid (Ae.pw 0 = 1) := Lib.hid rfl
  have HPS : Hid (∀ k, Ae.pw (k + 1) = Ae.th (Ae.pw k)) := Lib.hid fun _ => rfl
  generalize Ae.PW = L at *
  generalize Ae.pw = pw at *
  have hz := zeroA255
  have hne := noughtsA_ne 255 (by decide)
  have HZ : Hid (bcells (List.replicate 255 0) = bcells (L.take 0 ++ List.replicate (255 - 0) 0)) := Lib.hid rfl
  generalize hzs : bcells (List.replicate 255 0) = zs at *
  go_enter Tryd.func91, Tryd.ntmps91
  go_wp2
  go_loopw [2, 4] (fun p i wr => ∃ k : Nat, k ≤ 255 ∧ i = .int .i64 k ∧ p = .int .u8 ((pw k).toNat : Nat) ∧ Below w.heap.size w wr ∧ w.heap.size + 2 ≤ wr.heap.size ∧ Hid (wr.heap[w.heap.size]? = some (.cells zs 106 (0, 0))) ∧ Hid (wr.heap[w.heap.size + 1]? = some (.cells (bcells (L.take k ++ List.replicate (255 - k) 0)) 106 (0, 0)))) (fun _ i _ => 255 - (intOf i).toNat)
  case atStart => exact ⟨0, by omega, rfl, by rw [HP0.out]; rfl, ((Below.refl _ _).alloc (Nat.le_refl _) _).alloc (by simp) _, by simp, heap_alloc2_old _ _ _, by rw [Hid, ← HZ.out]; exact heap_alloc2_new _ _ _⟩
  case round =>
    obtain ⟨k, hk, rfl, rfl, hb, hz, HC0, HC1⟩ := hrel
    by_cases hlt : k < 255
    · have hcell := brow_cell HC1.out HL.out hlt
      have hfro := frozen_of_row _ _ k _ _ HC1.out
      have HA := Lib.hid (HAT.out k hlt)
      have HT := Lib.hid fun W => thrice_any (pw k) W
      rw [← HPS.out k] at HT
      go_wp2_with fail
      refine (HT.out _).mono ?_
      rintro _ w' ⟨rfl, rfl⟩
      have HB := Lib.hid (brow_set HC1.out HL.out hlt)
      rw [HA.out] at HB
      go_wp2
      go_roundw
      case rel => exact ⟨k + 1, by omega, by go_num, rfl, hb.setCell (by show w.heap.size ≤ w.heap.size + 1; omega) _, by simp [World.setCell]; omega, by rw [Hid, heap_setCell_other _ _ _ _ (by show w.heap.size ≠ w.heap.size + 1; omega)]; exact HC0.out, HB⟩
      case measure => simp [intOf]; omega
    · obtain rfl : k = 255 := by omega
      have hzz : zs.size = 255 := by rw [← hzs, bcells_size, List.length_replicate]
      clear hzs hz hne HZ
      have HR : Hid (wr.heap[w.heap.size + 1]? = some (.cells (bcells L) 106 (0, 0))) := by
        have h := HC1.out
        rw [List.take_of_length_le (by rw [HL.out]; exact Nat.le_refl _), Nat.sub_self, List.replicate_zero, List.append_nil] at h
        exact h
      clear HC1
      have HI : Hid ((Tryd.prog.info? 106).map (·.size) = some (bcells L).size) := by rw [Hid, infoA255, bcells_size, HL.out]
      have HS : Hid (zs.size = (bcells L).size) := by rw [Hid, bcells_size, HL.out, hzz]
      clear hzz
      go_wp2_with (first | (refine wpList_load_row rfl 106 (.tmp 1) rfl (w.heap.size + 1) rfl 106 (bcells L) (0, 0) _ HR.out Tryd.underlying106 rfl HI.out ?_) | (refine wpList_store_row rfl 106 (.tmp 0) (.tmp 13) rfl w.heap.size (bcells L) rfl rfl 106 _ HC0.out HI.out HS.out (bcells_one _) ?_))
      exact bodyPost_ret (v := .agg (bcells L)) (results_cell_row Tryd.results91 _ _ w.heap.size 106 _ (0, 0) _ rfl (setRow_heap _ _ _ _ _ _ HC0.out) Tryd.underlying106 rfl HI.out) rfl ⟨rfl, below_setRow' hb (Nat.le_refl _) _⟩
end Go.Proofs.YtdjehpbkkbahcaaDoor
