/- start, text. -/
import Derived.Test.YtdjehpbkkbahcaaDoorShaW3
import Derived.Lib.ConvBytes
namespace Go.Proofs.YtdjehpbkkbahcaaDoor
open Go.RowKit

/-- The tables hold what they were laid with. -/
structure Tabs (w : World) : Prop where
  sq : ∀ i, i < 8 → w.cell? ⟨0, i, none⟩ = some (.int .u32 (Sh.SQ.getD i 0 : Nat))
  kk : ∀ i, i < 64 → w.cell? ⟨1, i, none⟩ = some (.int .u32 (Sh.KK.getD i 0 : Nat))
  size : 2 ≤ w.heap.size
theorem Tabs.below {w w' : World} (h : Tabs w) (hb : Below w.heap.size w w') : Tabs w' :=
  ⟨fun i hi => by rw [hb.cell (p := ⟨0, i, none⟩) (by have := h.size; show 0 < _; omega)]; exact h.sq i hi, fun i hi => by rw [hb.cell (p := ⟨1, i, none⟩) (by have := h.size; show 1 < _; omega)]; exact h.kk i hi, Nat.le_trans h.size hb.size⟩

set_option maxRecDepth 100000 in
theorem start_any (w : World) (HT : Tabs w) :
    Calls Tryd.prog 48 #[] w fun e w' => e = .returned (.agg (cells Sh.SQ)) ∧ Below w.heap.size w w' := by
  have hts := HT.size
  go_enter Tryd.func48, Tryd.ntmps48
  go_wp2
  go_loopw [3] (fun i wr => ∃ k : Nat, k ≤ 8 ∧ i = .int .i64 k ∧ Below w.heap.size w wr ∧ w.heap.size + 2 ≤ wr.heap.size ∧ Hid (wr.heap[w.heap.size]? = some (.cells (cells [0, 0, 0, 0, 0, 0, 0, 0]) 64 (0, 0))) ∧ Hid (wr.heap[w.heap.size + 1]? = some (.cells (cells (Sh.SQ.take k ++ List.replicate (8 - k) 0)) 64 (0, 0)))) (fun i _ => 8 - (intOf i).toNat)
  case atStart => exact ⟨0, by omega, rfl, ((Below.refl _ _).alloc (Nat.le_refl _) _).alloc (by simp) _, by simp, heap_alloc2_old _ _ _, heap_alloc2_new _ _ _⟩
  case round =>
    obtain ⟨k, hk, rfl, hb, hz, HC0, HC1⟩ := hrel
    by_cases hlt : k < 8
    · have hcell := row_cell HC1.out rfl hlt
      have hfro := frozen_of_row _ _ k _ _ HC1.out
      have htab := (HT.below hb).sq k hlt
      go_wp2
      go_roundw
      case rel => exact ⟨k + 1, by omega, by go_num, hb.setCell (by show w.heap.size ≤ w.heap.size + 1; omega) _, by simp [World.setCell]; omega, by rw [Hid, heap_setCell_other _ _ _ _ (by show w.heap.size ≠ w.heap.size + 1; omega)]; exact HC0.out, row_set HC1.out rfl hlt⟩
      case measure => simp [intOf]; omega
    · obtain rfl : k = 8 := by omega
      have HR : Hid (wr.heap[w.heap.size + 1]? = some (.cells (cells Sh.SQ) 64 (0, 0))) := HC1
      clear HC1
      go_wp2_with (first | (refine wpList_load_row rfl 64 (.tmp 1) rfl (w.heap.size + 1) rfl 64 (cells Sh.SQ) (0, 0) _ HR.out Tryd.underlying64 rfl info37 ?_) | (refine wpList_store_row rfl 64 (.tmp 0) (.tmp 12) rfl w.heap.size (cells Sh.SQ) rfl rfl 64 _ HC0.out info37 rfl (cells_one _) ?_))
      exact bodyPost_ret (v := .agg (cells Sh.SQ)) (results_cell_row Tryd.results48 _ _ w.heap.size 64 _ (0, 0) _ rfl (setRow_heap _ _ _ _ _ _ HC0.out) Tryd.underlying64 rfl info37) rfl ⟨rfl, below_setRow' hb (Nat.le_refl _) _⟩

/-- Bytes as cells. -/
def bcells (l : List UInt8) : Array Value := (l.map fun b => Value.int .u8 (b.toNat : Nat)).toArray
theorem bcells_at (l : List UInt8) (i : Nat) (h : i < l.length) : (bcells l)[i]? = some (.int .u8 ((l.getD i 0).toNat : Nat)) := by
  simp [bcells, List.getD_eq_getElem?_getD, h]
theorem bcells_set (l : List UInt8) (i : Nat) (x : UInt8) : (bcells l).setIfInBounds i (.int .u8 (x.toNat : Nat)) = bcells (l.set i x) := by
  apply Array.toList_inj.1
  simp [bcells, List.map_set]
theorem info5 : (Tryd.prog.info? 5).map (fun i => (i.zero, i.size, i.bytes)) = some (some (.int .u8 0), 1, 1) := by kernel_rfl
theorem made_zero (n : Nat) : madeCells #[Value.int .u8 0] n = bcells (List.replicate n 0) := by
  apply Array.toList_inj.1
  simp only [madeCells, bcells, List.map_replicate, List.size_toArray, List.length_singleton, Array.toList_map, Nat.mod_one]
  apply List.ext_getElem
  · simp
  · intro i h1 h2
    simp
theorem make_any (n : Nat) (h : n ≤ 1000000) (W : World) : (Instr.makeSlice 26 (.int .i64 (n : Int)) (.int .i64 (n : Int))).run Tryd.prog W = .ok (.slice (some ⟨W.heap.size, 0, none⟩) n n) (W.alloc (.cells (bcells (List.replicate n 0)) 5)) := by
  obtain ⟨i, hi, he⟩ := Option.map_eq_some_iff.1 info5
  simp only [Prod.mk.injEq] at he
  obtain ⟨hz, hs, hb⟩ := he
  have hr := run_make (P := Tryd.prog) W 26 5 i _ Tryd.underlying26 hi hz .i64 .i64 n n (by omega) (by omega) (by rw [hb]; omega) (by omega)
  rw [hr, hs, Int.toNat_natCast, Nat.mul_one]
  show _ = Result.ok _ (W.alloc (.cells _ _))
  rw [← made_zero]
  rfl
theorem bfill_set (L : List UInt8) (k n : Nat) (hn : L.length = n) (hk : k < n) : (L.take k ++ List.replicate (n - k) 0).set k (L.getD k 0) = L.take (k + 1) ++ List.replicate (n - (k + 1)) 0 := by
  have hlt : (L.take k).length = k := by simp; omega
  have e : L.take (k + 1) = L.take k ++ [L[k]'(by omega)] := List.take_succ_eq_append_getElem (by omega)
  rw [e, List.set_append_right _ _ (by omega), hlt, Nat.sub_self, show n - k = (n - (k + 1)) + 1 by omega, List.replicate_succ, List.set_cons_zero, List.getD_eq_getElem?_getD, List.getElem?_eq_getElem (by omega), List.append_assoc]
  rfl
theorem brow_set {wr : World} {g k n : Nat} {t : TypeId} {L : List UInt8} (h : wr.heap[g]? = some (.cells (bcells (L.take k ++ List.replicate (n - k) 0)) t (0, 0))) (hn : L.length = n) (hk : k < n) :
    (wr.setCell ⟨g, k, none⟩ (.int .u8 ((L.getD k 0).toNat : Nat))).heap[g]? = some (.cells (bcells (L.take (k + 1) ++ List.replicate (n - (k + 1)) 0)) t (0, 0)) := by
  rw [heap_setCell_same _ _ _ _ _ _ h, bcells_set, bfill_set L k n hn hk]
theorem brow_cell {wr : World} {g k n : Nat} {t : TypeId} {L : List UInt8} (h : wr.heap[g]? = some (.cells (bcells (L.take k ++ List.replicate (n - k) 0)) t (0, 0))) (hn : L.length = n) (hk : k < n) :
    wr.cell? ⟨g, k, none⟩ = some (.int .u8 (0 : Nat)) := by
  have hlt : (L.take k).length = k := by simp; omega
  rw [cell_of_row _ _ _ _ _ _ h, bcells_at _ _ (by simp; omega), List.getD_eq_getElem?_getD, List.getElem?_append_right (by omega), hlt, Nat.sub_self, show n - k = (n - (k + 1)) + 1 by omega]
  rfl
theorem conv_any (W : World) (g cap : Nat) (l : List UInt8) (t : TypeId) (fr : Nat × Nat) (cur : Array Value) (h : W.heap[g]? = some (.cells cur t fr)) (hc : ∀ j, j < l.length → cur[j]? = some (.int .u8 ((l.getD j 0).toNat : Nat))) :
    (convert 26 9 (.slice (some ⟨g, 0, none⟩) l.length cap)).run Tryd.prog W = .ok (.string ⟨⟨l⟩⟩) W :=
  run_convert_bytes_back (P := Tryd.prog) W 26 9 5 ⟨g, 0, none⟩ cap l Tryd.underlying26 Tryd.underlying5 Tryd.underlying9 (fun j hj => by
    rw [Addr.add_lit, cell_of_row _ _ _ _ _ _ h]
    have := hc j hj
    simpa [List.getD_eq_getElem?_getD, hj] using this)

theorem byt_one (x : Nat) : (UInt8.ofNat x).toNat = x / 1 % 256 := by rw [Nat.div_one]; exact UInt8.toNat_ofNat'
theorem txt_byte (v : Sh.St) : ∀ k, k < 32 → ((Sh.txt v).getD k 0).toNat = v.list.getD (k / 4) 0 / 2 ^ (8 * (3 - k % 4)) % 256
  | 0, _ => UInt8.toNat_ofNat'
  | 1, _ => UInt8.toNat_ofNat'
  | 2, _ => UInt8.toNat_ofNat'
  | 3, _ => byt_one _
  | 4, _ => UInt8.toNat_ofNat'
  | 5, _ => UInt8.toNat_ofNat'
  | 6, _ => UInt8.toNat_ofNat'
  | 7, _ => byt_one _
  | 8, _ => UInt8.toNat_ofNat'
  | 9, _ => UInt8.toNat_ofNat'
  | 10, _ => UInt8.toNat_ofNat'
  | 11, _ => byt_one _
  | 12, _ => UInt8.toNat_ofNat'
  | 13, _ => UInt8.toNat_ofNat'
  | 14, _ => UInt8.toNat_ofNat'
  | 15, _ => byt_one _
  | 16, _ => UInt8.toNat_ofNat'
  | 17, _ => UInt8.toNat_ofNat'
  | 18, _ => UInt8.toNat_ofNat'
  | 19, _ => byt_one _
  | 20, _ => UInt8.toNat_ofNat'
  | 21, _ => UInt8.toNat_ofNat'
  | 22, _ => UInt8.toNat_ofNat'
  | 23, _ => byt_one _
  | 24, _ => UInt8.toNat_ofNat'
  | 25, _ => UInt8.toNat_ofNat'
  | 26, _ => UInt8.toNat_ofNat'
  | 27, _ => byt_one _
  | 28, _ => UInt8.toNat_ofNat'
  | 29, _ => UInt8.toNat_ofNat'
  | 30, _ => UInt8.toNat_ofNat'
  | 31, _ => byt_one _
  | n + 32, h => absurd h (by omega)

set_option maxRecDepth 100000 in
theorem text_any (v : Sh.St) (w : World) :
    Calls Tryd.prog 51 #[.agg (cells v.list)] w fun e w' => e = .returned (.string ⟨⟨Sh.txt v⟩⟩) ∧ Below w.heap.size w w' := by
  have hmk := make_any 32 (by decide)
  simp only [Int.cast_ofNat_Int] at hmk
  go_enter Tryd.func51, Tryd.ntmps51
  go_wp2
  go_loopw [8] (fun i wr => ∃ k : Nat, k ≤ 32 ∧ i = .int .i64 k ∧ Below w.heap.size w wr ∧ w.heap.size + 2 ≤ wr.heap.size ∧ Hid (wr.heap[w.heap.size]? = some (.cells (cells v.list) 64 (0, 0))) ∧ Hid (wr.heap[w.heap.size + 1]? = some (.cells (bcells ((Sh.txt v).take k ++ List.replicate (32 - k) 0)) 5 (0, 0)))) (fun i _ => 32 - (intOf i).toNat)
  case atStart => exact ⟨0, by omega, rfl, ((Below.refl _ _).alloc (Nat.le_refl _) _).alloc (by simp) _, by simp, heap_alloc2_old _ _ _, heap_alloc2_new _ _ _⟩
  case round =>
    obtain ⟨k, hk, rfl, hb, hz, HC0, HC1⟩ := hrel
    by_cases hlt : k < 32
    · have hcell := brow_cell HC1.out rfl hlt
      have hfro := frozen_of_row _ _ k _ _ HC1.out
      have hd : k / 4 < 8 := by omega
      have hrd : wr.cell? ⟨w.heap.size, k / 4, none⟩ = some (.int .u32 (v.list.getD (k / 4) 0 : Nat)) := by
        rw [cell_of_row _ _ _ _ _ _ HC0.out, cells_at _ _ (by show k / 4 < 8; omega)]
      have hval : ((v.list[k / 4]?.getD 0 : Nat) : Int) / 2 ^ (8 * (3 - k % 4)) % 256 = (((Sh.txt v).getD k 0).toNat : Nat) := by rw [txt_byte v k hlt, List.getD_eq_getElem?_getD]; simp
      have HV := Lib.hid hval
      clear hmk hval
      go_wp2
      rw [HV.out]
      go_roundw
      case rel => exact ⟨k + 1, by omega, by go_num, hb.setCell (by show w.heap.size ≤ w.heap.size + 1; omega) _, by simp [World.setCell]; omega, by rw [Hid, heap_setCell_other _ _ _ _ (by show w.heap.size ≠ w.heap.size + 1; omega)]; exact HC0.out, brow_set HC1.out rfl hlt⟩
      case measure => simp [intOf]; omega
    · obtain rfl : k = 32 := by omega
      have hcv := conv_any wr (w.heap.size + 1) 32 (Sh.txt v) 5 (0, 0) _ HC1.out (fun j hj => bcells_at (Sh.txt v) j hj)
      rw [Sh.txt_length] at hcv
      clear hmk
      go_wp2
      go_ret
      exact ⟨rfl, hb⟩
end Go.Proofs.YtdjehpbkkbahcaaDoor
