/- The words' functions of the program: turned, small0, small1, big0, big1. -/
import Derived.Test.YtdjehpbkkbahcaaDoorGShaWa
import Derived.Test.YtdjehpbkkbahcaaDoorGPur
import Derived.WalkSpells
import Derived.StillTactics
import Derived.Laws.Pointers
import Derived.Deep.RegionHeld3
import Derived.StillTailTactics
import Derived.Deep.RegionWith
import Derived.Deep.DeepCutAuto
namespace Go.Proofs.YtdjehpbkkbahcaaDoor
open Go.RowKit
theorem boxed (x : Nat) (w : World) : (w.alloc (.cells #[.int .u32 x] 62)).cell? ⟨w.heap.size, 0, none⟩ = some (.int .u32 x) := cell_of_row _ _ 0 _ 62 (0, 0) (heap_alloc_new w _)

set_option maxRecDepth 100000 in
theorem turner_any (x : Nat) (w : World) :
    Calls Tryd.prog 82 #[.int .u32 x] w fun e w' => e = .returned (.func (.func 89) #[] #[.pointer (some ⟨w.heap.size, 0, none⟩)]) ∧ w.alloc (.cells #[.int .u32 x] 62) = w' := by
  go_enter Tryd.func82, Tryd.ntmps82
  go_wp2
  go_ret
  exact ⟨rfl, rfl⟩

set_option maxRecDepth 100000 in
theorem turned_any (x n : Nat) (k : Int) (g : Nat) (w : World) (hx : x < 4294967296) (hk : k = n) (h1 : 1 ≤ n) (h2 : n ≤ 31) (hc : w.cell? ⟨g, 0, none⟩ = some (.int .u32 x)) :
    Calls Tryd.prog 89 #[.int .i64 k, .pointer (some ⟨g, 0, none⟩)] w fun e w' => e = .returned (.int .u32 (Sh.rot x n : Nat)) ∧ w = w' := by
  subst hk
  go_enter Tryd.func89, Tryd.ntmps89
  go_wp2_with fail
  refine (rot_any x n w hx h1 h2).mono ?_
  rintro e w' ⟨rfl, rfl⟩
  go_wp2
  go_ret
  exact ⟨rfl, rfl⟩

set_option maxRecDepth 100000 in
theorem small0_any (x : Nat) (w : World) (hx : x < 4294967296) :
    Calls Tryd.prog 81 #[.int .u32 x] w fun e w' => e = .returned (.int .u32 (Sh.s0 x : Nat)) ∧ w.alloc (.cells #[.int .u32 x] 62) = w' := by
  go_enter Tryd.func81, Tryd.ntmps81
  go_wp2_with fail
  refine (turner_any x w).mono ?_
  rintro e w' ⟨rfl, rfl⟩
  go_wp2_with fail
  refine (turned_any x 7 7 _ _ hx rfl (by decide) (by decide) (boxed x w)).mono ?_
  rintro e w' ⟨rfl, rfl⟩
  go_wp2_with fail
  refine (turned_any x 18 18 _ _ hx rfl (by decide) (by decide) (boxed x w)).mono ?_
  rintro e w' ⟨rfl, rfl⟩
  go_wp2
  go_ret
  refine ⟨ret_u32 (?_ : bits BinOp.xor IntKind.u32 (bits BinOp.xor IntKind.u32 ↑(Sh.rot x 7) ↑(Sh.rot x 18)) (↑x / 8) = _), rfl⟩
  rw [show ((x : Int) / 8) = ((x / 8 : Nat) : Int) by simp, u32_xor_nat _ _ (Sh.rot_lt hx (by decide)) (Sh.rot_lt hx (by decide)), u32_xor_nat _ _ (Sh.xor_lt (Sh.rot_lt hx (by decide)) (Sh.rot_lt hx (by decide))) (by omega)]
  rfl

set_option maxRecDepth 100000 in
theorem small1_any (x : Nat) (w : World) (hx : x < 4294967296) :
    Calls Tryd.prog 80 #[.int .u32 x] w fun e w' => e = .returned (.int .u32 (Sh.s1 x : Nat)) ∧ w.alloc (.cells #[.int .u32 x] 62) = w' := by
  go_enter Tryd.func80, Tryd.ntmps80
  go_wp2_with fail
  refine (turner_any x w).mono ?_
  rintro e w' ⟨rfl, rfl⟩
  go_wp2_with fail
  refine (turned_any x 17 17 _ _ hx rfl (by decide) (by decide) (boxed x w)).mono ?_
  rintro e w' ⟨rfl, rfl⟩
  go_wp2_with fail
  refine (turned_any x 19 19 _ _ hx rfl (by decide) (by decide) (boxed x w)).mono ?_
  rintro e w' ⟨rfl, rfl⟩
  go_wp2
  go_ret
  refine ⟨ret_u32 (?_ : bits BinOp.xor IntKind.u32 (bits BinOp.xor IntKind.u32 ↑(Sh.rot x 17) ↑(Sh.rot x 19)) (↑x / 1024) = _), rfl⟩
  rw [show ((x : Int) / 1024) = ((x / 1024 : Nat) : Int) by simp, u32_xor_nat _ _ (Sh.rot_lt hx (by decide)) (Sh.rot_lt hx (by decide)), u32_xor_nat _ _ (Sh.xor_lt (Sh.rot_lt hx (by decide)) (Sh.rot_lt hx (by decide))) (by omega)]
  rfl

set_option maxRecDepth 100000 in
theorem big0_any (x : Nat) (w : World) (hx : x < 4294967296) :
    Calls Tryd.prog 72 #[.int .u32 x] w fun e w' => e = .returned (.int .u32 (Sh.S0 x : Nat)) ∧ w.alloc (.cells #[.int .u32 x] 62) = w' := by
  go_enter Tryd.func72, Tryd.ntmps72
  go_wp2_with fail
  refine (turner_any x w).mono ?_
  rintro e w' ⟨rfl, rfl⟩
  go_wp2_with fail
  refine (turned_any x 2 2 _ _ hx rfl (by decide) (by decide) (boxed x w)).mono ?_
  rintro e w' ⟨rfl, rfl⟩
  go_wp2_with fail
  refine (turned_any x 13 13 _ _ hx rfl (by decide) (by decide) (boxed x w)).mono ?_
  rintro e w' ⟨rfl, rfl⟩
  go_wp2_with fail
  refine (turned_any x 22 22 _ _ hx rfl (by decide) (by decide) (boxed x w)).mono ?_
  rintro e w' ⟨rfl, rfl⟩
  go_wp2
  go_ret
  refine ⟨ret_u32 (?_ : bits BinOp.xor IntKind.u32 (bits BinOp.xor IntKind.u32 ↑(Sh.rot x 2) ↑(Sh.rot x 13)) ↑(Sh.rot x 22) = _), rfl⟩
  rw [u32_xor_nat _ _ (Sh.rot_lt hx (by decide)) (Sh.rot_lt hx (by decide)), u32_xor_nat _ _ (Sh.xor_lt (Sh.rot_lt hx (by decide)) (Sh.rot_lt hx (by decide))) (Sh.rot_lt hx (by decide))]
  rfl

set_option maxRecDepth 100000 in
theorem big1_any (x : Nat) (w : World) (hx : x < 4294967296) :
    Calls Tryd.prog 70 #[.int .u32 x] w fun e w' => e = .returned (.int .u32 (Sh.S1 x : Nat)) ∧ w.alloc (.cells #[.int .u32 x] 62) = w' := by
  go_enter Tryd.func70, Tryd.ntmps70
  go_wp2_with fail
  refine (turner_any x w).mono ?_
  rintro e w' ⟨rfl, rfl⟩
  go_wp2_with fail
  refine (turned_any x 6 6 _ _ hx rfl (by decide) (by decide) (boxed x w)).mono ?_
  rintro e w' ⟨rfl, rfl⟩
  go_wp2_with fail
  refine (turned_any x 11 11 _ _ hx rfl (by decide) (by decide) (boxed x w)).mono ?_
  rintro e w' ⟨rfl, rfl⟩
  go_wp2_with fail
  refine (turned_any x 25 25 _ _ hx rfl (by decide) (by decide) (boxed x w)).mono ?_
  rintro e w' ⟨rfl, rfl⟩
  go_wp2
  go_ret
  refine ⟨ret_u32 (?_ : bits BinOp.xor IntKind.u32 (bits BinOp.xor IntKind.u32 ↑(Sh.rot x 6) ↑(Sh.rot x 11)) ↑(Sh.rot x 25) = _), rfl⟩
  rw [u32_xor_nat _ _ (Sh.rot_lt hx (by decide)) (Sh.rot_lt hx (by decide)), u32_xor_nat _ _ (Sh.xor_lt (Sh.rot_lt hx (by decide)) (Sh.rot_lt hx (by decide))) (Sh.rot_lt hx (by decide))]
  rfl
end Go.Proofs.YtdjehpbkkbahcaaDoor

/- spread. -/

namespace Go.Proofs.YtdjehpbkkbahcaaDoor
open Go.RowKit

theorem row_old {wr : World} {g k n j : Nat} {t : TypeId} {L : List Nat} (h : wr.heap[g]? = some (.cells (cells (L.take k ++ List.replicate (n - k) 0)) t (0, 0))) (hn : L.length = n) (hk : k < n) (hj : j < k) :
    wr.cell? ⟨g, j, none⟩ = some (.int .u32 (L.getD j 0 : Nat)) := by
  have hlt : (L.take k).length = k := by simp; omega
  rw [cell_of_row _ _ _ _ _ _ h, cells_at _ _ (by simp; omega), List.getD_eq_getElem?_getD, List.getElem?_append_left (by omega), List.getElem?_take, if_pos hj, List.getD_eq_getElem?_getD]

theorem keep_cell {wr : World} {g j k : Nat} {v : Value} {A B : Obj} {x : Option Value} (hz : g < wr.heap.size) (hjk : ¬ k = j) (h : wr.cell? ⟨g, j, none⟩ = x) :
    (((wr.setCell ⟨g, k, none⟩ v).alloc A).alloc B).drew.cell? ⟨g, j, none⟩ = x := by
  have hs : (wr.setCell ⟨g, k, none⟩ v).heap.size = wr.heap.size := by simp [World.setCell]
  have h1 : (((wr.setCell ⟨g, k, none⟩ v).alloc A).alloc B).drew.heap[g]? = (wr.setCell ⟨g, k, none⟩ v).heap[g]? := by
    rw [heap_drew, Below.heap_alloc _ _ _ (by simp [hs]; omega), Below.heap_alloc _ _ _ (by rw [hs]; exact hz)]
  rw [World.cell?_of_block (w := wr.setCell ⟨g, k, none⟩ v) (a := ⟨g, j, none⟩) h1, ← h]
  simp only [World.cell?, World.setCell, Array.getElem?_modify, if_true]
  cases hq : wr.heap[g]? with
  | none => simp
  | some o => cases o <;> simp [hjk]

theorem heap2 {wr : World} {p : Addr} {v : Value} {A B : Obj} {j : Nat} (hz : j < wr.heap.size) : (((wr.setCell p v).alloc A).alloc B).drew.heap[j]? = (wr.setCell p v).heap[j]? := by
  have hs : (wr.setCell p v).heap.size = wr.heap.size := by simp [World.setCell]
  rw [heap_drew, Below.heap_alloc _ _ _ (by simp [hs]; omega), Below.heap_alloc _ _ _ (by rw [hs]; exact hz)]

set_option maxRecDepth 100000 in
set_option maxHeartbeats 1000000 in
theorem spread_by (b : List UInt8) (L : List Nat) (w : World) (hb64 : b.length = 64) (HL : Hid (L.length = 64)) (HLT : Hid (∀ x ∈ L, x < 4294967296))
    (HG : Hid (∀ k, k < 64 → L.getD k 0 = if k < 16 then Sh.word (b.drop (4 * k)) else Sh.nxt L k)) :
    Calls Tryd.prog 69 #[.string ⟨⟨b⟩⟩] w fun e w' => e = .returned (.agg (cells L)) ∧ Below w.heap.size w w' := by
  go_enter Tryd.func69, Tryd.ntmps69
  go_wp2
  go_loopw [5] (fun i wr => ∃ k : Nat, k ≤ 64 ∧ i = .int .i64 k ∧ Below w.heap.size w wr ∧ w.heap.size + 1 < wr.heap.size ∧ Hid (wr.heap[w.heap.size]? = some (.cells (cells (List.replicate 64 0)) 82 (0, 0))) ∧ Hid (wr.heap[w.heap.size + 1]? = some (.cells (cells (L.take k ++ List.replicate (64 - k) 0)) 82 (0, 0)))) (fun i _ => 64 - (intOf i).toNat)
  case atStart => exact ⟨0, by omega, rfl, ((Below.refl _ _).alloc (Nat.le_refl _) _).alloc (by simp) _, by simp, heap_alloc2_old _ _ _, heap_alloc2_new _ _ _⟩
  case round =>
    obtain ⟨k, hk, rfl, hb, hz, HC0, HC1⟩ := hrel
    by_cases hlt : k < 64
    · have hcell := row_cell HC1.out HL.out hlt
      have hfro := frozen_of_row _ _ k _ _ HC1.out
      by_cases h16 : k < 16
      · have HW : Hid (Sh.word (b.drop (k * 4)) = L.getD k 0) := by rw [Hid, HG.out k hlt, if_pos h16, Nat.mul_comm]
        go_wp2_with fail
        rw [cut_str, ← hb64, List.take_of_length_le (by simp)]
        refine (readWord_any (b.drop (k * 4)) wr (by simp; omega) (by simp; omega)).mono ?_
        rintro e w' ⟨rfl, rfl⟩
        rw [HW.out]
        go_wp2
        go_roundw
        case rel => exact ⟨k + 1, by omega, by go_num, hb.setCell (by show w.heap.size ≤ w.heap.size + 1; omega) _, by simp [World.setCell]; omega, by rw [Hid, heap_setCell_other _ _ _ _ (by show w.heap.size ≠ w.heap.size + 1; omega)]; exact HC0.out, row_set HC1.out HL.out hlt⟩
        case measure => simp [intOf]; omega
      · have hr2 := row_old HC1.out HL.out hlt (j := k - 2) (by omega)
        have hr7 := row_old HC1.out HL.out hlt (j := k - 7) (by omega)
        have hr15 := row_old HC1.out HL.out hlt (j := k - 15) (by omega)
        have hr16 := row_old HC1.out HL.out hlt (j := k - 16) (by omega)
        have l2 := Sh.getD_lt HLT.out (k - 2)
        have l15 := Sh.getD_lt HLT.out (k - 15)
        have HN : Hid (IntKind.u32.wrap (IntKind.u32.wrap (IntKind.u32.wrap (((Sh.s1 (L.getD (k - 2) 0) : Nat) : Int) + (L.getD (k - 7) 0 : Nat)) + (Sh.s0 (L.getD (k - 15) 0) : Nat)) + (L.getD (k - 16) 0 : Nat)) = ((L.getD k 0 : Nat) : Int)) := by
          rw [Hid, HG.out k hlt, if_neg h16, Sh.nxt]
          simp only [IntKind.wrap_u32']
          omega
        generalize L.getD (k - 2) 0 = x2 at *
        generalize L.getD (k - 7) 0 = x7 at *
        generalize L.getD (k - 15) 0 = x15 at *
        generalize L.getD (k - 16) 0 = x16 at *
        have e2 : IntKind.i64.wrap ((k : Int) - 2) = (k : Int) - 2 := IntWalk.i64_in _ (by omega)
        have e7 : IntKind.i64.wrap ((k : Int) - 7) = (k : Int) - 7 := IntWalk.i64_in _ (by omega)
        have e15 : IntKind.i64.wrap ((k : Int) - 15) = (k : Int) - 15 := IntWalk.i64_in _ (by omega)
        have e16 : IntKind.i64.wrap ((k : Int) - 16) = (k : Int) - 16 := IntWalk.i64_in _ (by omega)
        have t2 : ((k : Int) - 2).toNat = k - 2 := by omega
        have t7 : ((k : Int) - 7).toNat = k - 7 := by omega
        have t15 : ((k : Int) - 15).toNat = k - 15 := by omega
        have t16 : ((k : Int) - 16).toNat = k - 16 := by omega
        have c2 : (2 : Int) ≤ (k : Int) := by omega
        have c7 : (7 : Int) ≤ (k : Int) := by omega
        have c15 : (15 : Int) ≤ (k : Int) := by omega
        have c16 : (16 : Int) ≤ (k : Int) := by omega
        have d2 : (k : Int) - 2 < 64 := by omega
        have d7 : (k : Int) - 7 < 64 := by omega
        have d15 : (k : Int) - 15 < 64 := by omega
        have d16 : (k : Int) - 16 < 64 := by omega
        have q2 : ¬ k = k - 2 := by omega
        have q7 : ¬ k = k - 7 := by omega
        have q15 : ¬ k = k - 15 := by omega
        have q16 : ¬ k = k - 16 := by omega
        have r2 : ¬ k - 2 = k := by omega
        have r7 : ¬ k - 7 = k := by omega
        have r15 : ¬ k - 15 = k := by omega
        have r16 : ¬ k - 16 = k := by omega
        generalize k - 2 = j2 at *
        generalize k - 7 = j7 at *
        generalize k - 15 = j15 at *
        generalize k - 16 = j16 at *
        have n2 : 2 ≤ k := by omega
        have n7 : 7 ≤ k := by omega
        have n15 : 15 ≤ k := by omega
        have n16 : 16 ≤ k := by omega
        have hz2 : w.heap.size < wr.heap.size := by omega
        have hz3 : w.heap.size < wr.heap.size + 1 := by omega
        go_wp2_with fail
        go_region_held3 (fun w' => w'.cell? ⟨w.heap.size + 1, j2, none⟩ = some (.int .u32 x2) ∧ w'.cell? ⟨w.heap.size + 1, j7, none⟩ = some (.int .u32 x7) ∧ w'.cell? ⟨w.heap.size + 1, j15, none⟩ = some (.int .u32 x15) ∧ w'.cell? ⟨w.heap.size + 1, j16, none⟩ = some (.int .u32 x16)) (first | (with_reducible exact ⟨keep_cell hz q2 hr2, keep_cell hz q7 hr7, keep_cell hz q15 hr15, keep_cell hz q16 hr16⟩) | go_keep)
          (first | (go_at_call 80; refine (small1_any x2 _ l2).mono ?_; rintro e w' ⟨rfl, rfl⟩) | (go_at_call 81; refine (small0_any x15 _ l15).mono ?_; rintro e w' ⟨rfl, rfl⟩))
        rw [HN.out]
        go_wp2
        go_roundw
        case rel =>
          refine ⟨k + 1, by omega, by go_num, (((hb.setCell (by show w.heap.size ≤ w.heap.size + 1; omega) _).alloc (by simp [World.setCell]; omega) _).alloc (by simp [World.setCell]; omega) _).drew, by simp [World.setCell]; omega, ?_, ?_⟩
          · rw [Hid, heap2 hz2, heap_setCell_other _ _ _ _ (by show w.heap.size ≠ w.heap.size + 1; omega)]
            exact HC0.out
          · rw [Hid, heap2 hz]
            exact row_set HC1.out HL.out hlt
        case measure => simp [intOf]; omega
    · obtain rfl : k = 64 := by omega
      have HR : Hid (wr.heap[w.heap.size + 1]? = some (.cells (cells L) 82 (0, 0))) := by
        have h := HC1.out
        rw [List.take_of_length_le (by rw [HL.out]; omega), Nat.sub_self, List.replicate_zero, List.append_nil] at h
        exact h
      have hcs : (Tryd.prog.info? 82).map (·.size) = some (cells L).size := by rw [info50, cells_size, HL.out]
      have HI := Lib.hid hcs
      have HS : Hid ((cells (List.replicate 64 0)).size = (cells L).size) := by rw [Hid, cells_size, cells_size, HL.out]; rfl
      clear HC1 hcs
      go_wp2_with (first | (refine wpList_load_row rfl 82 (.tmp 3) rfl (w.heap.size + 1) rfl 82 (cells L) (0, 0) _ HR.out Tryd.underlying82 rfl HI.out ?_) | (refine wpList_store_row rfl 82 (.tmp 2) (.tmp 41) rfl w.heap.size (cells L) rfl rfl 82 _ HC0.out HI.out HS.out (cells_one _) ?_))
      exact bodyPost_ret (v := .agg (cells L)) (results_cell_row Tryd.results69 _ _ w.heap.size 82 _ (0, 0) _ rfl (setRow_heap _ _ _ _ _ _ HC0.out) Tryd.underlying82 rfl HI.out) rfl ⟨rfl, below_setRow' hb (Nat.le_refl _) _⟩

theorem spread_any (b : List UInt8) (w : World) (hb64 : b.length = 64) :
    Calls Tryd.prog 69 #[.string ⟨⟨b⟩⟩] w fun e w' => e = .returned (.agg (cells (Sh.sp b 64))) ∧ Below w.heap.size w w' :=
  spread_by b (Sh.sp b 64) w hb64 (Lib.hid (Sh.sp_length b 64)) (Lib.hid (Sh.sp_lt b 64)) (Lib.hid fun k hk => Sh.sp_get b k hk)
end Go.Proofs.YtdjehpbkkbahcaaDoor

/- behind. -/

namespace Go.Proofs.YtdjehpbkkbahcaaDoor
open Go.RowKit

theorem eight {w : World} {g : Nat} {v : Sh.St} {t : TypeId} (h : w.heap[g]? = some (.cells (cells v.list) t (0, 0))) :
    w.cell? ⟨g, 0, none⟩ = some (.int .u32 (v.a : Nat)) ∧ w.cell? ⟨g, 1, none⟩ = some (.int .u32 (v.b : Nat)) ∧ w.cell? ⟨g, 2, none⟩ = some (.int .u32 (v.c : Nat)) ∧ w.cell? ⟨g, 3, none⟩ = some (.int .u32 (v.d : Nat)) ∧ w.cell? ⟨g, 4, none⟩ = some (.int .u32 (v.e : Nat)) ∧ w.cell? ⟨g, 5, none⟩ = some (.int .u32 (v.f : Nat)) ∧ w.cell? ⟨g, 6, none⟩ = some (.int .u32 (v.g : Nat)) ∧ w.cell? ⟨g, 7, none⟩ = some (.int .u32 (v.h : Nat)) := by
  refine ⟨?_, ?_, ?_, ?_, ?_, ?_, ?_, ?_⟩ <;> (rw [cell_of_row _ _ _ _ _ _ h]; rfl)

set_option maxRecDepth 100000 in
set_option maxHeartbeats 1000000 in
theorem behind_by (v R : Sh.St) (b : List UInt8) (L : List Nat) (w : World) (HT : Tabs w) (HV : v.Ok) (HL : Hid (L.length = 64)) (HLT : Hid (∀ x ∈ L, x < 4294967296)) (HR : Hid (Sh.rn L v 64 = R))
    (HSP : Hid (∀ w, Calls Tryd.prog 69 #[.string ⟨⟨b⟩⟩] w fun e w' => e = .returned (.agg (cells L)) ∧ Below w.heap.size w w')) :
    Calls Tryd.prog 60 #[.agg (cells v.list), .string ⟨⟨b⟩⟩] w fun e w' => e = .returned (.agg (cells (Sh.plus v R).list)) ∧ Below w.heap.size w w' := by
  go_enter Tryd.func60, Tryd.ntmps60
  go_wp2_with fail
  refine (HSP.out _).mono ?_
  rintro e w1 ⟨rfl, hb1⟩
  have HA : Hid (w1.heap[w.heap.size]? = some (.cells (cells v.list) 64 (0, 0))) := by rw [Hid, hb1.block _ (by simp; omega)]; exact heap_alloc2_old _ _ _
  have HB : Hid (w1.heap[w.heap.size + 1]? = some (.cells (cells [0, 0, 0, 0, 0, 0, 0, 0]) 64 (0, 0))) := by rw [Hid, hb1.block _ (by simp)]; exact heap_alloc2_new _ _ _
  have hbw : Below w.heap.size w w1 := (((Below.refl _ _).alloc (Nat.le_refl _) _).alloc (by simp) _).trans (hb1.mono (by simp; omega))
  have hz1 : w.heap.size + 1 < w1.heap.size := by have := hb1.size; simp at this; omega
  clear hb1
  have hcs : (Tryd.prog.info? 82).map (·.size) = some (cells L).size := by rw [info50, cells_size, HL.out]
  have HI := Lib.hid hcs
  have HS : Hid ((cells (List.replicate 64 0)).size = (cells L).size) := by rw [Hid, cells_size, cells_size, HL.out]; rfl
  clear hcs
  go_wp2_with ((refine wpList_store_row rfl 82 (.tmp 5) (.tmp 18) rfl w1.heap.size (cells L) rfl rfl 82 (cells (List.replicate 64 0)) (heap_alloc_new _ _) HI.out HS.out (cells_one _) ?_))
  have hw2 : Below w.heap.size w ((w1.alloc (.cells (cells (List.replicate 64 0)) 82)).setRow w1.heap.size (cells L)) := below_setRow' (hbw.alloc (by omega) _) (by omega) _
  have HA2 : Hid (((w1.alloc (.cells (cells (List.replicate 64 0)) 82)).setRow w1.heap.size (cells L)).heap[w.heap.size]? = some (.cells (cells v.list) 64 (0, 0))) := by
    rw [Hid, setRow_other _ _ _ _ (by omega), Below.heap_alloc _ _ _ (by omega)]
    exact HA.out
  have HB2 : Hid (((w1.alloc (.cells (cells (List.replicate 64 0)) 82)).setRow w1.heap.size (cells L)).heap[w.heap.size + 1]? = some (.cells (cells [0, 0, 0, 0, 0, 0, 0, 0]) 64 (0, 0))) := by
    rw [Hid, setRow_other _ _ _ _ (by omega), Below.heap_alloc _ _ _ (by omega)]
    exact HB.out
  have HC2 : Hid (((w1.alloc (.cells (cells (List.replicate 64 0)) 82)).setRow w1.heap.size (cells L)).heap[w1.heap.size]? = some (.cells (cells L) 82 (0, 0))) := setRow_heap _ _ _ _ _ _ (heap_alloc_new _ _)
  have hz2 : w1.heap.size < ((w1.alloc (.cells (cells (List.replicate 64 0)) 82)).setRow w1.heap.size (cells L)).heap.size := by simp
  generalize hg : w1.heap.size = m at *
  change Code.wp _ _ _ _ ((w1.alloc (.cells (cells (List.replicate 64 0)) 82)).setRow m (cells L))
  generalize (w1.alloc (.cells (cells (List.replicate 64 0)) 82)).setRow m (cells L) = w2 at *
  clear hg HA HB hbw HS
  obtain ⟨q0, q1, q2, q3, q4, q5, q6, q7⟩ := eight HA2.out
  go_quiet (fail)
  go_wp2
  have hb0 : Below w.heap.size w (w2.drewN nq) := ⟨hw2.os, hw2.tape, hw2.output, hw2.size, hw2.block⟩
  have HA3 : Hid ((w2.drewN nq).heap[w.heap.size]? = some (.cells (cells v.list) 64 (0, 0))) := HA2
  have HB3 : Hid ((w2.drewN nq).heap[w.heap.size + 1]? = some (.cells (cells [0, 0, 0, 0, 0, 0, 0, 0]) 64 (0, 0))) := HB2
  have HC3 : Hid ((w2.drewN nq).heap[m]? = some (.cells (cells L) 82 (0, 0))) := HC2
  have hz3 : m < (w2.drewN nq).heap.size := hz2
  generalize w2.drewN nq = w3 at *
  clear HA2 HB2 HC2 hz2 hw2 q0 q1 q2 q3 q4 q5 q6 q7 HSP w2
  go_loopw [6, 7, 8, 9, 10, 11, 12, 13, 35] (fun a b c d e f g h i wr => ∃ k : Nat, ∃ u : Sh.St, k ≤ 64 ∧ i = .int .i64 k ∧ a = .int .u32 (u.a : Nat) ∧ b = .int .u32 (u.b : Nat) ∧ c = .int .u32 (u.c : Nat) ∧ d = .int .u32 (u.d : Nat) ∧ e = .int .u32 (u.e : Nat) ∧ f = .int .u32 (u.f : Nat) ∧ g = .int .u32 (u.g : Nat) ∧ h = .int .u32 (u.h : Nat) ∧ Hid (Sh.rn L v k = u) ∧ Below w.heap.size w wr ∧ m < wr.heap.size ∧
      Hid (wr.heap[w.heap.size]? = some (.cells (cells v.list) 64 (0, 0))) ∧ Hid (wr.heap[w.heap.size + 1]? = some (.cells (cells [0, 0, 0, 0, 0, 0, 0, 0]) 64 (0, 0))) ∧ Hid (wr.heap[m]? = some (.cells (cells L) 82 (0, 0)))) (fun _ _ _ _ _ _ _ _ i _ => 64 - (intOf i).toNat)
  case atStart => exact ⟨0, v, by omega, rfl, rfl, rfl, rfl, rfl, rfl, rfl, rfl, rfl, Lib.hid rfl, hb0, hz3, HA3, HB3, HC3⟩
  case round =>
    obtain ⟨k, u, hk, rfl, rfl, rfl, rfl, rfl, rfl, rfl, rfl, rfl, HU, hb, hz, HA, HB, HC⟩ := hrel
    clear hb0 hz3 HA3 HB3 HC3
    have HO : u.Ok := HU.out ▸ Sh.rn_ok HV L k
    by_cases hlt : k < 64
    · have HE : Hid (Sh.rn L v (k + 1) = Sh.rnd (Sh.KK.getD k 0) (L.getD k 0) u) := by rw [Hid, Sh.rn, HU.out]
      have hkk := (HT.below hb).kk k hlt
      have hww : wr.cell? ⟨m, k, none⟩ = some (.int .u32 (L.getD k 0 : Nat)) := by rw [cell_of_row _ _ _ _ _ _ HC.out, cells_at _ _ (by rw [HL.out]; exact hlt)]
      have bK := Sh.getD_lt Sh.KK_lt k
      have bW := Sh.getD_lt HLT.out k
      generalize Sh.KK.getD k 0 = kk at *
      generalize L.getD k 0 = wk at *
      obtain ⟨a, b, c, d, e, f, g, h⟩ := u
      obtain ⟨oa, ob, oc, od, oe, of, og, oh⟩ := HO
      simp only at oa ob oc od oe of og oh
      have hts := HT.size
      have hne : 1 < wr.heap.size := by omega
      go_wp2_with fail
      go_region_held3 (fun w' => w'.cell? ⟨1, k, none⟩ = some (.int .u32 kk) ∧ w'.cell? ⟨m, k, none⟩ = some (.int .u32 wk)) (go_keep)
          (first | (go_at_call 70; refine (big1_any e _ oe).mono ?_; rintro _ w' ⟨rfl, rfl⟩) | (go_at_call 71; refine (choice_any e f g _ oe of og).mono ?_; rintro _ w' ⟨rfl, rfl⟩))
      have HT1 : Hid (IntKind.u32.wrap (IntKind.u32.wrap (IntKind.u32.wrap (IntKind.u32.wrap ((h : Int) + (Sh.S1 e : Nat)) + (Sh.ch e f g : Nat)) + (kk : Nat)) + (wk : Nat)) = ((Sh.tt ⟨a, b, c, d, e, f, g, h⟩ kk wk : Nat) : Int)) := by
        show _ = (((h + Sh.S1 e + Sh.ch e f g + kk + wk) % 4294967296 : Nat) : Int)
        simp only [IntKind.wrap_u32']
        omega
      have lt1 : Sh.tt ⟨a, b, c, d, e, f, g, h⟩ kk wk < 4294967296 := Nat.mod_lt _ (by decide)
      have HU1 : Hid (((Sh.S0 a : Nat) + (Sh.ma a b c : Nat) : Int) % 4294967296 = ((Sh.uu ⟨a, b, c, d, e, f, g, h⟩ : Nat) : Int)) := by
        show _ = (((Sh.S0 a + Sh.ma a b c) % 4294967296 : Nat) : Int)
        omega
      have HE2 : Hid (Sh.rnd kk wk ⟨a, b, c, d, e, f, g, h⟩ = ⟨(Sh.tt ⟨a, b, c, d, e, f, g, h⟩ kk wk + Sh.uu ⟨a, b, c, d, e, f, g, h⟩) % 4294967296, a, b, c, (d + Sh.tt ⟨a, b, c, d, e, f, g, h⟩ kk wk) % 4294967296, e, f, g⟩) := Lib.hid rfl
      rw [HT1.out]
      generalize Sh.tt ⟨a, b, c, d, e, f, g, h⟩ kk wk = t1 at *
      generalize Sh.uu ⟨a, b, c, d, e, f, g, h⟩ = t2 at *
      have lS0 := Sh.S0_lt oa
      have lma := Sh.ma_lt (a := a) ob oc
      go_wp2_with fail
      refine (big0_any a _ oa).mono ?_
      rintro _ w' ⟨rfl, rfl⟩
      go_wp2_with fail
      refine (majority_any a b c _ oa ob oc).mono ?_
      rintro _ w' ⟨rfl, rfl⟩
      go_wp2
      rw [HU1.out]
      go_roundw
      case rel =>
        refine ⟨k + 1, ⟨(t1 + t2) % 4294967296, a, b, c, (d + t1) % 4294967296, e, f, g⟩, by omega, by go_num, by simp, rfl, rfl, rfl, by simp, rfl, rfl, rfl, ?_, ((hb.alloc (by omega) _).alloc (by simp; omega) _).drew, by simp; omega, ?_, ?_, ?_⟩
        · rw [Hid, HE.out, HE2.out]
        · rw [Hid, heap_drew, Below.heap_alloc _ _ _ (by simp; omega), Below.heap_alloc _ _ _ (by omega)]; exact HA.out
        · rw [Hid, heap_drew, Below.heap_alloc _ _ _ (by simp; omega), Below.heap_alloc _ _ _ (by omega)]; exact HB.out
        · rw [Hid, heap_drew, Below.heap_alloc _ _ _ (by simp; omega), Below.heap_alloc _ _ _ (by omega)]; exact HC.out
      case measure => simp [intOf]; omega
    · obtain rfl : k = 64 := by omega
      obtain rfl : R = u := HR.out.symm.trans HU.out
      obtain ⟨q0, q1, q2, q3, q4, q5, q6, q7⟩ := eight HA.out
      have p0 : ((v.a : Int) + (R.a : Nat)) % 4294967296 = ((Sh.plus v R).a : Nat) := rfl
      have p1 : ((v.b : Int) + (R.b : Nat)) % 4294967296 = ((Sh.plus v R).b : Nat) := rfl
      have p2 : ((v.c : Int) + (R.c : Nat)) % 4294967296 = ((Sh.plus v R).c : Nat) := rfl
      have p3 : ((v.d : Int) + (R.d : Nat)) % 4294967296 = ((Sh.plus v R).d : Nat) := rfl
      have p4 : ((v.e : Int) + (R.e : Nat)) % 4294967296 = ((Sh.plus v R).e : Nat) := rfl
      have p5 : ((v.f : Int) + (R.f : Nat)) % 4294967296 = ((Sh.plus v R).f : Nat) := rfl
      have p6 : ((v.g : Int) + (R.g : Nat)) % 4294967296 = ((Sh.plus v R).g : Nat) := rfl
      have p7 : ((v.h : Int) + (R.h : Nat)) % 4294967296 = ((Sh.plus v R).h : Nat) := rfl
      generalize hpz : Sh.plus v R = z at *
      have HPZ := Lib.hid hpz
      clear HU HR hpz
      go_wp2_with (refine wpList_store_row rfl 64 (.tmp 4) (.tmp 107) rfl (w.heap.size + 1) (cells z.list) rfl rfl 64 _ HB.out info37 rfl (cells_one _) ?_)
      exact bodyPost_ret (v := .agg (cells z.list)) (results_cell_row Tryd.results60 _ _ (w.heap.size + 1) 64 _ (0, 0) _ rfl (setRow_heap _ _ _ _ _ _ HB.out) Tryd.underlying64 rfl info37) rfl ⟨by rw [HPZ.out], below_setRow' hb (by omega) _⟩

theorem behind_any (v : Sh.St) (b : List UInt8) (w : World) (HT : Tabs w) (hv : v.Ok) (hb : b.length = 64) :
    Calls Tryd.prog 60 #[.agg (cells v.list), .string ⟨⟨b⟩⟩] w fun e w' => e = .returned (.agg (cells (Sh.beh v b).list)) ∧ Below w.heap.size w w' :=
  behind_by v (Sh.rn (Sh.sp b 64) v 64) b (Sh.sp b 64) w HT hv (Lib.hid (Sh.sp_length b 64)) (Lib.hid (Sh.sp_lt b 64)) (Lib.hid rfl) (Lib.hid fun w => spread_any b w hb)
end Go.Proofs.YtdjehpbkkbahcaaDoor

/- through. -/

namespace Go.Proofs.YtdjehpbkkbahcaaDoor
open Go.RowKit

theorem info_st (u : Sh.St) : (Tryd.prog.info? 64).map (·.size) = some (cells u.list).size := by rw [info37, cells_size]; rfl
theorem size_st (u u' : Sh.St) : (cells u.list).size = (cells u'.list).size := by rw [cells_size, cells_size]; rfl
theorem size_zero (u : Sh.St) : (cells [0, 0, 0, 0, 0, 0, 0, 0]).size = (cells u.list).size := by rw [cells_size, cells_size]; rfl
theorem thr_succ (v : Sh.St) (s : List UInt8) (k : Nat) : Sh.thr v s (k + 1) = Sh.beh (Sh.thr v s k) ((s.drop (k * 64)).take 64) := by rw [Sh.thr]

set_option maxRecDepth 100000 in
set_option maxHeartbeats 1000000 in
theorem through_any (v : Sh.St) (s : List UInt8) (w : World) (HT : Tabs w) (HV : v.Ok) (hs : s.length ≤ 1000000) :
    Calls Tryd.prog 49 #[.agg (cells v.list), .string ⟨⟨s⟩⟩] w fun e w' => e = .returned (.agg (cells (Sh.blocks v s).list)) ∧ Below w.heap.size w w' := by
  go_enter Tryd.func49, Tryd.ntmps49
  go_wp2
  go_loopw [9] (fun i wr => ∃ k : Nat, k ≤ s.length / 64 ∧ i = .int .i64 k ∧ Below w.heap.size w wr ∧ w.heap.size + 1 < wr.heap.size ∧ Hid (wr.heap[w.heap.size]? = some (.cells (cells (Sh.thr v s k).list) 64 (0, 0))) ∧ Hid (wr.heap[w.heap.size + 1]? = some (.cells (cells [0, 0, 0, 0, 0, 0, 0, 0]) 64 (0, 0)))) (fun i _ => s.length / 64 - (intOf i).toNat)
  case atStart => exact ⟨0, by omega, rfl, ((Below.refl _ _).alloc (Nat.le_refl _) _).alloc (by simp) _, by simp, heap_alloc2_old _ _ _, heap_alloc2_new _ _ _⟩
  case round =>
    obtain ⟨k, hk, rfl, hb, hz, HA, HB⟩ := hrel
    have HO := Lib.hid (Sh.thr_ok HV s k)
    have HE : Hid (Sh.thr v s (k + 1) = Sh.beh (Sh.thr v s k) ((s.drop (k * 64)).take 64)) := Lib.hid (thr_succ v s k)
    by_cases hlt : k < s.length / 64
    · generalize Sh.thr v s k = u at *
      have hz' : w.heap.size + 1 < wr.drew.heap.size := hz
      have HTR := HT.below hb
      have HTR' : Tabs wr.drew := ⟨HTR.sq, HTR.kk, HTR.size⟩
      have HA' : Hid (wr.drew.heap[w.heap.size]? = some (.cells (cells u.list) 64 (0, 0))) := HA
      have HB' : Hid (wr.drew.heap[w.heap.size + 1]? = some (.cells (cells [0, 0, 0, 0, 0, 0, 0, 0]) 64 (0, 0))) := HB
      have hb' : Below w.heap.size w wr.drew := hb.drew
      have hk64 : (k + 1) * 64 ≤ s.length := by omega
      obtain ⟨lo, hlo⟩ : ∃ lo : Nat, lo = k * 64 := ⟨_, rfl⟩
      obtain ⟨hi, hhi⟩ : ∃ hi : Nat, hi = (k + 1) * 64 := ⟨_, rfl⟩
      have e1 : IntKind.i64.wrap ((k : Int) * 64) = (lo : Int) := by rw [IntWalk.i64_in _ (by omega)]; omega
      have e2 : IntKind.i64.wrap ((k : Int) + 1) = (k : Int) + 1 := IntWalk.i64_in _ (by omega)
      have e3 : IntKind.i64.wrap (((k : Int) + 1) * 64) = (hi : Int) := by rw [IntWalk.i64_in _ (by omega)]; omega
      have f1 : lo ≤ hi := by omega
      have f2 : hi ≤ s.length := by omega
      have HCUT : Hid ((s.drop lo).take (hi - lo) = (s.drop (k * 64)).take 64) := by rw [Hid, hlo, hhi, show (k + 1) * 64 - k * 64 = 64 by omega]
      have hl64 : ((s.drop (k * 64)).take 64).length = 64 := by simp; omega
      have H64 := Lib.hid hl64
      clear hl64 hlo hhi hk64
      go_wp2_with fail
      refine wp_region_still_tail 8 (by kernel_rfl) (by kernel_rfl) ?_
      change wpStill _ _ (World.drew _) (fun a' => wpList _ _ _ _ a' (World.drew _)) _ _
      generalize wr.drew = w2 at *
      obtain ⟨q0, q1, q2, q3, q4, q5, q6, q7⟩ := eight HA'.out
      clear HA HB hb hz HTR
      simp only [List.take_succ_cons, List.take_zero, List.drop_succ_cons, List.drop_zero]
      repeat still_step
      refine wpStill_nil ?_
      go_wp2_with fail
      rw [cut_str, HCUT.out]
      change Calls Tryd.prog 60 #[.agg (cells u.list), .string ⟨⟨(s.drop (k * 64)).take 64⟩⟩] w2 _
      refine (behind_any u _ w2 HTR' HO.out H64.out).mono ?_
      rintro _ w3 ⟨rfl, hb3⟩
      rw [← HE.out]
      generalize hu' : Sh.thr v s (k + 1) = u' at *
      have HU' := Lib.hid hu'
      clear hu'
      have HA3 : Hid (w3.heap[w.heap.size]? = some (.cells (cells u.list) 64 (0, 0))) := by rw [Hid, hb3.block _ (by omega)]; exact HA'.out
      have HB3 : Hid (w3.heap[w.heap.size + 1]? = some (.cells (cells [0, 0, 0, 0, 0, 0, 0, 0]) 64 (0, 0))) := by rw [Hid, hb3.block _ (by omega)]; exact HB'.out
      have hw3 : Below w.heap.size w w3 := hb'.trans (hb3.mono (by omega))
      have hz3 : w.heap.size + 1 < w3.heap.size := by have := hb3.size; omega
      clear q0 q1 q2 q3 q4 q5 q6 q7 hb3 e1 e2 e3
      go_wp2_with (refine wpList_store_row rfl 64 (.tmp 2) (.tmp 20) rfl w.heap.size (cells u'.list) rfl rfl 64 _ HA3.out (info_st u') (size_st u u') (cells_one _) ?_)
      go_roundw
      case rel => exact ⟨k + 1, by omega, by go_num, below_setRow' hw3 (Nat.le_refl _) _, by simp; omega, by rw [Hid, HU'.out]; exact setRow_heap _ _ _ _ _ _ HA3.out, by rw [Hid, setRow_other _ _ _ _ (by omega)]; exact HB3.out⟩
      case measure => simp [intOf]; omega
    · obtain rfl : k = s.length / 64 := by omega
      have HBL : Hid (Sh.blocks v s = Sh.thr v s (s.length / 64)) := Lib.hid rfl
      clear HE HO
      generalize Sh.thr v s (s.length / 64) = u at *
      go_wp2_with (first | (refine wpList_load_row rfl 64 (.tmp 2) rfl w.heap.size rfl 64 (cells u.list) (0, 0) _ HA.out Tryd.underlying64 rfl (info_st u) ?_) | (refine wpList_store_row rfl 64 (.tmp 4) (.tmp 22) rfl (w.heap.size + 1) (cells u.list) rfl rfl 64 _ HB.out (info_st u) (size_zero u) (cells_one _) ?_))
      exact bodyPost_ret (v := .agg (cells u.list)) (results_cell_row Tryd.results49 _ _ (w.heap.size + 1) 64 _ (0, 0) _ rfl (setRow_heap _ _ _ _ _ _ HB.out) Tryd.underlying64 rfl (info_st u)) rfl ⟨by rw [HBL.out], below_setRow' hb (by omega) _⟩
end Go.Proofs.YtdjehpbkkbahcaaDoor

/- Start, Block, Sum. -/

namespace Go.Proofs.YtdjehpbkkbahcaaDoor
open Go.RowKit

theorem start_st (w : World) (HT : Tabs w) : Calls Tryd.prog 48 #[] w fun e w' => e = .returned (.agg (cells Sh.start.list)) ∧ Below w.heap.size w w' := start_any w HT

theorem blocks_one (v : Sh.St) (b : List UInt8) (hb : b.length = 64) : Sh.blocks v b = Sh.beh v b := by
  rw [Sh.blocks, hb, show 64 / 64 = 0 + 1 by decide, thr_succ, Sh.thr, Nat.zero_mul, List.drop_zero, List.take_of_length_le (by omega)]

end Go.Proofs.YtdjehpbkkbahcaaDoor

/- Sum. -/

namespace Go.Proofs.YtdjehpbkkbahcaaDoor
open Go.RowKit

theorem Tabs.drew {w : World} (h : Tabs w) : Tabs w.drew := ⟨h.sq, h.kk, h.size⟩
theorem Tabs.alloc {w : World} (h : Tabs w) (o : Obj) : Tabs (w.alloc o) := h.below ((Below.refl _ _).alloc (Nat.le_refl _) _)

theorem bcell {W w1 : World} (hb : Below W.heap.size W w1) : (∀ b o, b < W.heap.size → w1.cell? ⟨b, o, none⟩ = W.cell? ⟨b, o, none⟩) ∧ (∀ b o, b < W.heap.size → w1.frozen? ⟨b, o, none⟩ = W.frozen? ⟨b, o, none⟩) :=
  ⟨fun b o h => hb.cell (p := ⟨b, o, none⟩) h, fun b o h => hb.frozen (p := ⟨b, o, none⟩) h⟩
/-- A slot points to a new variable that holds a state. -/
def AtCell (w : World) (u : Sh.St) (s4 : Value) (wx : World) : Prop :=
  ∃ g, s4 = .pointer (some ⟨g, 0, none⟩) ∧ w.heap.size ≤ g ∧ wx.heap[g]? = some (.cells (cells u.list) 64 (0, 0)) ∧ Below w.heap.size w wx

theorem app_str (a b : List UInt8) : ByteArray.mk ⟨a⟩ ++ ByteArray.mk ⟨b⟩ = ⟨⟨a ++ b⟩⟩ := by
  apply ByteArray.ext
  rw [ByteArray.data_append]
  apply Array.toList_inj.1
  simp
/-- The eight words of a state, one by one. -/
def Eight (w : World) (g : Nat) (u : Sh.St) : Prop :=
  w.cell? ⟨g, 0, none⟩ = some (.int .u32 (u.a : Nat)) ∧ w.cell? ⟨g, 1, none⟩ = some (.int .u32 (u.b : Nat)) ∧ w.cell? ⟨g, 2, none⟩ = some (.int .u32 (u.c : Nat)) ∧ w.cell? ⟨g, 3, none⟩ = some (.int .u32 (u.d : Nat)) ∧ w.cell? ⟨g, 4, none⟩ = some (.int .u32 (u.e : Nat)) ∧ w.cell? ⟨g, 5, none⟩ = some (.int .u32 (u.f : Nat)) ∧ w.cell? ⟨g, 6, none⟩ = some (.int .u32 (u.g : Nat)) ∧ w.cell? ⟨g, 7, none⟩ = some (.int .u32 (u.h : Nat))
theorem eightB {W w : World} {g : Nat} {u : Sh.St} (hb : Below W.heap.size W w) (hz : g < W.heap.size) (h : Eight W g u) : Eight w g u := by
  obtain ⟨h0, h1, h2, h3, h4, h5, h6, h7⟩ := h
  exact ⟨(hb.cell (p := ⟨g, 0, none⟩) hz).trans h0, (hb.cell (p := ⟨g, 1, none⟩) hz).trans h1, (hb.cell (p := ⟨g, 2, none⟩) hz).trans h2, (hb.cell (p := ⟨g, 3, none⟩) hz).trans h3, (hb.cell (p := ⟨g, 4, none⟩) hz).trans h4, (hb.cell (p := ⟨g, 5, none⟩) hz).trans h5, (hb.cell (p := ⟨g, 6, none⟩) hz).trans h6, (hb.cell (p := ⟨g, 7, none⟩) hz).trans h7⟩
/-- Eight words stored one by one. -/
def sets (w : World) (g : Nat) (u : Sh.St) : World :=
  ((((((((w.setCell ⟨g, 0, none⟩ (.int .u32 (u.a : Nat))).setCell ⟨g, 1, none⟩ (.int .u32 (u.b : Nat))).setCell ⟨g, 2, none⟩ (.int .u32 (u.c : Nat))).setCell ⟨g, 3, none⟩ (.int .u32 (u.d : Nat))).setCell ⟨g, 4, none⟩ (.int .u32 (u.e : Nat))).setCell ⟨g, 5, none⟩ (.int .u32 (u.f : Nat))).setCell ⟨g, 6, none⟩ (.int .u32 (u.g : Nat))).setCell ⟨g, 7, none⟩ (.int .u32 (u.h : Nat)))
theorem set8 {w : World} {g : Nat} (u : Sh.St) (h : w.heap[g]? = some (.cells (cells [0, 0, 0, 0, 0, 0, 0, 0]) 64 (0, 0))) : (sets w g u).heap[g]? = some (.cells (cells u.list) 64 (0, 0)) := by
  have h1 := heap_setCell_same w g 0 _ 64 (.int .u32 (u.a : Nat)) h
  have h2 := heap_setCell_same _ g 1 _ 64 (.int .u32 (u.b : Nat)) h1
  have h3 := heap_setCell_same _ g 2 _ 64 (.int .u32 (u.c : Nat)) h2
  have h4 := heap_setCell_same _ g 3 _ 64 (.int .u32 (u.d : Nat)) h3
  have h5 := heap_setCell_same _ g 4 _ 64 (.int .u32 (u.e : Nat)) h4
  have h6 := heap_setCell_same _ g 5 _ 64 (.int .u32 (u.f : Nat)) h5
  have h7 := heap_setCell_same _ g 6 _ 64 (.int .u32 (u.g : Nat)) h6
  have h8 := heap_setCell_same _ g 7 _ 64 (.int .u32 (u.h : Nat)) h7
  refine h8.trans ?_
  simp [cells, Sh.St.list]
theorem undrew {B : Nat} {a b : World} (h : Below B a.drew b) : Below B a b := ⟨h.os, h.tape, h.output, h.size, h.block⟩
theorem below8 {a w : World} {B g : Nat} (h : Below B a w) (hg : B ≤ g) (u : Sh.St) : Below B a (sets w g u) :=
  (((((((h.setCell hg _).setCell hg _).setCell hg _).setCell hg _).setCell hg _).setCell hg _).setCell hg _).setCell hg _

set_option maxRecDepth 100000 in
set_option maxHeartbeats 1000000 in
theorem Sum_any (s : List UInt8) (w : World) (HT : Tabs w) (hs : s.length ≤ 100000) :
    Calls Tryd.prog 32 #[.string ⟨⟨s⟩⟩] w fun e w' => e = .returned (.string ⟨⟨Sh.sum s⟩⟩) ∧ Below w.heap.size w w' := by
  have HE := Lib.hid (Sh.sum_cut s)
  have HP := Lib.hid (Sh.pad_le s.length)
  obtain ⟨m, hm⟩ : ∃ m : Nat, m = s.length - s.length % 64 := ⟨_, rfl⟩
  have hml : m ≤ s.length := by omega
  have em : (s.length : Int) - (s.length : Int) % 64 = (m : Int) := by omega
  rw [← hm] at HE
  clear hm
  go_enter Tryd.func32, Tryd.ntmps32
  go_upto_region 2 with (fail)
  go_cut [4] (fun s4 wx => AtCell w (Sh.blocks Sh.start (s.take m)) s4 wx)
  case first =>
    go_region_with (first | (go_at_call 48; refine (start_st _ (by repeat (first | exact HT | refine Tabs.drew ?_ | refine Tabs.alloc ?_ _ | refine Tabs.below ?_ (by assumption)))).mono ?_; rintro _ w1 ⟨rfl, hb1⟩; have hz1 := hb1.size; (try simp at hz1); (try (have hy1 : w.heap.size < w1.heap.size := by omega)); obtain ⟨hc1, hf1⟩ := bcell hb1) | (go_at_call 49; (try rw [cut_str]); refine (through_any Sh.start ((s.drop 0).take (m - 0)) _ (by repeat (first | exact HT | refine Tabs.drew ?_ | refine Tabs.alloc ?_ _ | refine Tabs.below ?_ (by assumption))) Sh.start_ok (by simp; omega)).mono ?_; rintro _ w2 ⟨rfl, hb2⟩; have hz2 := hb2.size; (try simp at hz2); (try (have hy2 : w1.heap.size < w2.heap.size := by omega)); (try (have hy3 : w.heap.size < w2.heap.size := by omega)); obtain ⟨hc2, hf2⟩ := bcell hb2; generalize hU : Sh.blocks Sh.start ((s.drop 0).take (m - 0)) = u; have HU : Hid (Sh.blocks Sh.start (s.take m) = u) := (by rw [Hid, ← hU]; simp); clear hU; have hcl : cells u.list = #[.int .u32 (u.a : Nat), .int .u32 (u.b : Nat), .int .u32 (u.c : Nat), .int .u32 (u.d : Nat), .int .u32 (u.e : Nat), .int .u32 (u.f : Nat), .int .u32 (u.g : Nat), .int .u32 (u.h : Nat)] := rfl))
    · go_wp2_with fail
      go_meet
      case rel =>
        rw [HU.out]
        exact ⟨w2.heap.size, rfl, by have := hb1.size; have := hb2.size; simp at *; omega, heap_alloc_new _ _, ((undrew hb1).trans (hb2.mono (undrew hb1).size)).alloc (by have := hb1.size; have := hb2.size; simp at *; omega) _⟩
    · go_wp2_with fail
      go_meet
      case rel =>
        rw [HU.out]
        have hbx : Below w.heap.size w w1 := undrew hb1
        have hsx := hbx.size
        have hbb : Below w.heap.size w w2 := (hbx.alloc hsx _).trans (hb2.mono (by simp; omega))
        exact ⟨w1.heap.size, rfl, by omega, set8 u ((hb2.block _ (by simp)).trans (heap_alloc_new _ _)), below8 hbb (by omega) u⟩
    · go_wp2_with fail
      go_meet
      case rel =>
        rw [HU.out]
        have hbb : Below w.heap.size w w2 := ((Below.refl _ _).alloc (Nat.le_refl _) _).trans (((undrew hb1).mono (by simp)).trans (hb2.mono (by omega)))
        exact ⟨w.heap.size, rfl, by omega, set8 u ((hb2.block _ (by omega)).trans ((hb1.block _ (by simp)).trans (heap_alloc_new _ _))), below8 hbb (by omega) u⟩
  case rest =>
    have HU := Sh.blocks_ok Sh.start_ok (s.take m)
    generalize Sh.blocks Sh.start (s.take m) = u at *
    obtain ⟨g, rfl, hgl, hgc, hbc⟩ := hcut
    have Q8 := eight hgc
    obtain ⟨q0, q1, q2, q3, q4, q5, q6, q7⟩ := eight hgc
    have hgz : g < wc.heap.size := (Array.getElem?_eq_some_iff.1 hgc).1
    have HPD := Lib.hid fun W => pad_any s.length W (by omega)
    generalize Sh.pad s.length = pd at *
    have hcut : (ByteArray.mk ⟨s⟩).extract m s.length = ⟨⟨s.drop m⟩⟩ := by rw [cut_str, List.take_of_length_le (by simp)]
    have hap : ByteArray.mk ⟨s.drop m⟩ ++ ByteArray.mk ⟨pd⟩ = ⟨⟨s.drop m ++ pd⟩⟩ := app_str _ _
    have HTC := HT.below hbc
    have HZ : Hid ((s.drop m ++ pd).length ≤ 1000000) := by have := HP.out; rw [Hid]; simp; omega
    have hl1 : s.length - m + pd.length ≤ 9223372036854775807 := by have := HP.out; omega
    have hl2 : ¬ 9223372036854775807 < s.length - m + pd.length := by omega
    clear hgc
    go_wp2_with fail
    go_region_held3 (fun w' => w'.cell? ⟨g, 0, none⟩ = some (.int .u32 (u.a : Nat)) ∧ w'.cell? ⟨g, 1, none⟩ = some (.int .u32 (u.b : Nat)) ∧ w'.cell? ⟨g, 2, none⟩ = some (.int .u32 (u.c : Nat)) ∧ w'.cell? ⟨g, 3, none⟩ = some (.int .u32 (u.d : Nat)) ∧ w'.cell? ⟨g, 4, none⟩ = some (.int .u32 (u.e : Nat)) ∧ w'.cell? ⟨g, 5, none⟩ = some (.int .u32 (u.f : Nat)) ∧ w'.cell? ⟨g, 6, none⟩ = some (.int .u32 (u.g : Nat)) ∧ w'.cell? ⟨g, 7, none⟩ = some (.int .u32 (u.h : Nat))) (first | (exact K6) | (exact K5) | (exact K4) | go_keep)
      (first | (go_at_call 50; refine (HPD.out _).mono ?_; rintro _ w4 ⟨rfl, hb4⟩; have K4 := eightB hb4 hgz Q8; have hz4 : g < w4.heap.size := Nat.lt_of_lt_of_le hgz hb4.size; have T4 : Tabs w4 := Tabs.below (by first | exact HTC | exact HTC.drew) hb4) | (go_at_call 49; refine (through_any u (s.drop m ++ pd) _ (by assumption) HU HZ.out).mono ?_; rintro _ w5 ⟨rfl, hb5⟩; have K5 := eightB hb5 hz4 K4; have hz5 : g < w5.heap.size := Nat.lt_of_lt_of_le hz4 hb5.size) | (go_at_call 51; refine (text_any _ _).mono ?_; rintro _ w6 ⟨rfl, hb6⟩; have K6 := eightB hb6 hz5 K5))
    have hw4 : Below w.heap.size w w4 := hbc.trans ((undrew hb4).mono hbc.size)
    have hw5 : Below w.heap.size w w5 := hw4.trans (hb5.mono hw4.size)
    have hw6 : Below w.heap.size w w6 := hw5.trans (hb6.mono hw5.size)
    generalize htx : Sh.txt (Sh.blocks u (s.drop m ++ pd)) = tx at *
    clear htx hw4 hw5 hb4 hb5 hb6 K4 K5 K6 T4 Q8 HPD HU
    go_wp2
    go_ret
    exact ⟨by rw [HE.out]; rfl, hw6⟩
end Go.Proofs.YtdjehpbkkbahcaaDoor

