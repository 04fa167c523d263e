/- spread. -/
import Derived.Test.YticofjbngfjjlaaGreatDoorGAShaW3
import Derived.Test.YticofjbngfjjlaaGreatDoorGAShaW2
import Derived.Test.YticofjbngfjjlaaGreatDoorGAAePureC
import Derived.WalkSpells
import Derived.StillTactics
import Derived.Laws.Pointers
import Derived.Deep.RegionHeld3
namespace Go.Proofs.YticofjbngfjjlaaGreatDoor
open Go.RowKit

theorem row_old {wr : World} {g k n j : Nat} {t : TypeId} {L : List Nat} (h : wr.heap[g]? = some (.cells (cells (L.take k ++ List.replicate (n - k) 0)) t (0, 0))) (hn : L.length = n) (hk : k < n) (hj : j < k) :
    wr.cell? ⟨g, j, none⟩ = some (.int .u32 (L.getD j 0 : Nat)) := by
  have hlt : (L.take k).length = k := by simp; omega
  rw [cell_of_row _ _ _ _ _ _ h, cells_at _ _ (by simp; omega), List.getD_eq_getElem?_getD, List.getElem?_append_left (by omega), List.getElem?_take, if_pos hj, List.getD_eq_getElem?_getD]

theorem keep_cell {wr : World} {g j k : Nat} {v : Value} {A B : Obj} {x : Option Value} (hz : g < wr.heap.size) (hjk : ¬ k = j) (h : wr.cell? ⟨g, j, none⟩ = x) :
    (((wr.setCell ⟨g, k, none⟩ v).alloc A).alloc B).drew.cell? ⟨g, j, none⟩ = x := by
  have hs : (wr.setCell ⟨g, k, none⟩ v).heap.size = wr.heap.size := by simp [World.setCell]
  have h1 : (((wr.setCell ⟨g, k, none⟩ v).alloc A).alloc B).drew.heap[g]? = (wr.setCell ⟨g, k, none⟩ v).heap[g]? := by
    rw [heap_drew, Below.heap_alloc _ _ _ (by simp [hs]; omega), Below.heap_alloc _ _ _ (by rw [hs]; exact hz)]
  rw [World.cell?_of_block (w := wr.setCell ⟨g, k, none⟩ v) (a := ⟨g, j, none⟩) h1, ← h]
  simp only [World.cell?, World.setCell, Array.getElem?_modify, if_true]
  cases hq : wr.heap[g]? with
  | none => simp
  | some o => cases o <;> simp [hjk]

theorem heap2 {wr : World} {p : Addr} {v : Value} {A B : Obj} {j : Nat} (hz : j < wr.heap.size) : (((wr.setCell p v).alloc A).alloc B).drew.heap[j]? = (wr.setCell p v).heap[j]? := by
  have hs : (wr.setCell p v).heap.size = wr.heap.size := by simp [World.setCell]
  rw [heap_drew, Below.heap_alloc _ _ _ (by simp [hs]; omega), Below.heap_alloc _ _ _ (by rw [hs]; exact hz)]

set_option maxRecDepth 100000 in
set_option maxHeartbeats 1000000 in
theorem spread_by (b : List UInt8) (L : List Nat) (w : World) (hb64 : b.length = 64) (HL : Hid (L.length = 64)) (HLT : Hid (∀ x ∈ L, x < 4294967296))
    (HG : Hid (∀ k, k < 64 → L.getD k 0 = if k < 16 then Sh.word (b.drop (4 * k)) else Sh.nxt L k)) :
    Calls Tryz.prog 182 #[.string ⟨⟨b⟩⟩] w fun e w' => e = .returned (.agg (cells L)) ∧ Below w.heap.size w w' := by
  go_enter Tryz.func182, Tryz.ntmps182
  go_wp2
  go_loopw [5] (fun i wr => ∃ k : Nat, k ≤ 64 ∧ i = .int .i64 k ∧ Below w.heap.size w wr ∧ w.heap.size + 1 < wr.heap.size ∧ Hid (wr.heap[w.heap.size]? = some (.cells (cells (List.replicate 64 0)) 179 (0, 0))) ∧ Hid (wr.heap[w.heap.size + 1]? = some (.cells (cells (L.take k ++ List.replicate (64 - k) 0)) 179 (0, 0)))) (fun i _ => 64 - (intOf i).toNat)
  case atStart => exact ⟨0, by omega, rfl, ((Below.refl _ _).alloc (Nat.le_refl _) _).alloc (by simp) _, by simp, heap_alloc2_old _ _ _, heap_alloc2_new _ _ _⟩
  case round =>
    obtain ⟨k, hk, rfl, hb, hz, HC0, HC1⟩ := hrel
    by_cases hlt : k < 64
    · have hcell := row_cell HC1.out HL.out hlt
      have hfro := frozen_of_row _ _ k _ _ HC1.out
      by_cases h16 : k < 16
      · have HW : Hid (Sh.word (b.drop (k * 4)) = L.getD k 0) := by rw [Hid, HG.out k hlt, if_pos h16, Nat.mul_comm]
        go_wp2_with fail
        rw [cut_str, ← hb64, List.take_of_length_le (by simp)]
        refine (readWord_any (b.drop (k * 4)) wr (by simp; omega) (by simp; omega)).mono ?_
        rintro e w' ⟨rfl, rfl⟩
        rw [HW.out]
        go_wp2
        go_roundw
        case rel => exact ⟨k + 1, by omega, by go_num, hb.setCell (by show w.heap.size ≤ w.heap.size + 1; omega) _, by simp [World.setCell]; omega, by rw [Hid, heap_setCell_other _ _ _ _ (by show w.heap.size ≠ w.heap.size + 1; omega)]; exact HC0.out, row_set HC1.out HL.out hlt⟩
        case measure => simp [intOf]; omega
      · have hr2 := row_old HC1.out HL.out hlt (j := k - 2) (by omega)
        have hr7 := row_old HC1.out HL.out hlt (j := k - 7) (by omega)
        have hr15 := row_old HC1.out HL.out hlt (j := k - 15) (by omega)
        have hr16 := row_old HC1.out HL.out hlt (j := k - 16) (by omega)
        have l2 := Sh.getD_lt HLT.out (k - 2)
        have l15 := Sh.getD_lt HLT.out (k - 15)
        have HN : Hid (IntKind.u32.wrap (IntKind.u32.wrap (IntKind.u32.wrap (((Sh.s1 (L.getD (k - 2) 0) : Nat) : Int) + (L.getD (k - 7) 0 : Nat)) + (Sh.s0 (L.getD (k - 15) 0) : Nat)) + (L.getD (k - 16) 0 : Nat)) = ((L.getD k 0 : Nat) : Int)) := by
          rw [Hid, HG.out k hlt, if_neg h16, Sh.nxt]
          simp only [IntKind.wrap_u32']
          omega
        generalize L.getD (k - 2) 0 = x2 at *
        generalize L.getD (k - 7) 0 = x7 at *
        generalize L.getD (k - 15) 0 = x15 at *
        generalize L.getD (k - 16) 0 = x16 at *
        have e2 : IntKind.i64.wrap ((k : Int) - 2) = (k : Int) - 2 := IntWalk.i64_in _ (by omega)
        have e7 : IntKind.i64.wrap ((k : Int) - 7) = (k : Int) - 7 := IntWalk.i64_in _ (by omega)
        have e15 : IntKind.i64.wrap ((k : Int) - 15) = (k : Int) - 15 := IntWalk.i64_in _ (by omega)
        have e16 : IntKind.i64.wrap ((k : Int) - 16) = (k : Int) - 16 := IntWalk.i64_in _ (by omega)
        have t2 : ((k : Int) - 2).toNat = k - 2 := by omega
        have t7 : ((k : Int) - 7).toNat = k - 7 := by omega
        have t15 : ((k : Int) - 15).toNat = k - 15 := by omega
        have t16 : ((k : Int) - 16).toNat = k - 16 := by omega
        have c2 : (2 : Int) ≤ (k : Int) := by omega
        have c7 : (7 : Int) ≤ (k : Int) := by omega
        have c15 : (15 : Int) ≤ (k : Int) := by omega
        have c16 : (16 : Int) ≤ (k : Int) := by omega
        have d2 : (k : Int) - 2 < 64 := by omega
        have d7 : (k : Int) - 7 < 64 := by omega
        have d15 : (k : Int) - 15 < 64 := by omega
        have d16 : (k : Int) - 16 < 64 := by omega
        have q2 : ¬ k = k - 2 := by omega
        have q7 : ¬ k = k - 7 := by omega
        have q15 : ¬ k = k - 15 := by omega
        have q16 : ¬ k = k - 16 := by omega
        have r2 : ¬ k - 2 = k := by omega
        have r7 : ¬ k - 7 = k := by omega
        have r15 : ¬ k - 15 = k := by omega
        have r16 : ¬ k - 16 = k := by omega
        generalize k - 2 = j2 at *
        generalize k - 7 = j7 at *
        generalize k - 15 = j15 at *
        generalize k - 16 = j16 at *
        have n2 : 2 ≤ k := by omega
        have n7 : 7 ≤ k := by omega
        have n15 : 15 ≤ k := by omega
        have n16 : 16 ≤ k := by omega
        have hz2 : w.heap.size < wr.heap.size := by omega
        have hz3 : w.heap.size < wr.heap.size + 1 := by omega
        go_wp2_with fail
        go_region_held3 (fun w' => w'.cell? ⟨w.heap.size + 1, j2, none⟩ = some (.int .u32 x2) ∧ w'.cell? ⟨w.heap.size + 1, j7, none⟩ = some (.int .u32 x7) ∧ w'.cell? ⟨w.heap.size + 1, j15, none⟩ = some (.int .u32 x15) ∧ w'.cell? ⟨w.heap.size + 1, j16, none⟩ = some (.int .u32 x16)) (first | (with_reducible exact ⟨keep_cell hz q2 hr2, keep_cell hz q7 hr7, keep_cell hz q15 hr15, keep_cell hz q16 hr16⟩) | go_keep)
          (first | (go_at_call 200; refine (small1_any x2 _ l2).mono ?_; rintro e w' ⟨rfl, rfl⟩) | (go_at_call 201; refine (small0_any x15 _ l15).mono ?_; rintro e w' ⟨rfl, rfl⟩))
        rw [HN.out]
        go_wp2
        go_roundw
        case rel =>
          refine ⟨k + 1, by omega, by go_num, (((hb.setCell (by show w.heap.size ≤ w.heap.size + 1; omega) _).alloc (by simp [World.setCell]; omega) _).alloc (by simp [World.setCell]; omega) _).drew, by simp [World.setCell]; omega, ?_, ?_⟩
          · rw [Hid, heap2 hz2, heap_setCell_other _ _ _ _ (by show w.heap.size ≠ w.heap.size + 1; omega)]
            exact HC0.out
          · rw [Hid, heap2 hz]
            exact row_set HC1.out HL.out hlt
        case measure => simp [intOf]; omega
    · obtain rfl : k = 64 := by omega
      have HR : Hid (wr.heap[w.heap.size + 1]? = some (.cells (cells L) 179 (0, 0))) := by
        have h := HC1.out
        rw [List.take_of_length_le (by rw [HL.out]; omega), Nat.sub_self, List.replicate_zero, List.append_nil] at h
        exact h
      have hcs : (Tryz.prog.info? 179).map (·.size) = some (cells L).size := by rw [info50, cells_size, HL.out]
      have HI := Lib.hid hcs
      have HS : Hid ((cells (List.replicate 64 0)).size = (cells L).size) := by rw [Hid, cells_size, cells_size, HL.out]; rfl
      clear HC1 hcs
      go_wp2_with (first | (refine wpList_load_row rfl 179 (.tmp 3) rfl (w.heap.size + 1) rfl 179 (cells L) (0, 0) _ HR.out Tryz.underlying179 rfl HI.out ?_) | (refine wpList_store_row rfl 179 (.tmp 2) (.tmp 41) rfl w.heap.size (cells L) rfl rfl 179 _ HC0.out HI.out HS.out (cells_one _) ?_))
      exact bodyPost_ret (v := .agg (cells L)) (results_cell_row Tryz.results182 _ _ w.heap.size 179 _ (0, 0) _ rfl (setRow_heap _ _ _ _ _ _ HC0.out) Tryz.underlying179 rfl HI.out) rfl ⟨rfl, below_setRow' hb (Nat.le_refl _) _⟩

theorem spread_any (b : List UInt8) (w : World) (hb64 : b.length = 64) :
    Calls Tryz.prog 182 #[.string ⟨⟨b⟩⟩] w fun e w' => e = .returned (.agg (cells (Sh.sp b 64))) ∧ Below w.heap.size w w' :=
  spread_by b (Sh.sp b 64) w hb64 (Lib.hid (Sh.sp_length b 64)) (Lib.hid (Sh.sp_lt b 64)) (Lib.hid fun k hk => Sh.sp_get b k hk)
end Go.Proofs.YticofjbngfjjlaaGreatDoor

