/- readWord. -/
import Derived.Test.YtgdfgaobaaledaaDoorW1
namespace Go.Proofs.YtgdfgaobaaledaaDoor
open Go.RowKit

theorem byte_at (s : List UInt8) (k : Nat) (h : k < s.length) : (ByteArray.mk ⟨s⟩)[k]'h = s[k] := rfl
theorem take_snoc (s : List UInt8) (k : Nat) (h : k < s.length) : s.take (k + 1) = s.take k ++ [s[k]] := by rw [List.take_succ_eq_append_getElem h]

theorem or_byte (m c : Nat) (hm : m < 16777216) (hc : c < 256) : bits BinOp.or IntKind.u32 ((m : Int) * 256) (c : Int) = ((m * 256 + c : Nat) : Int) := by
  rw [show ((m : Int) * 256) = ((m * 256 : Nat) : Int) by simp, u32_or_nat _ _ (by omega) (by omega), nat_join 8 (m * 256) c (by omega) (by omega)]

set_option maxRecDepth 100000 in
theorem readWord_any (s : List UInt8) (w : World) (h4 : 4 ≤ s.length) (hs : s.length ≤ 100000000) :
    Calls Tryd.prog 30 #[.string ⟨⟨s⟩⟩] w fun e w' => e = .returned (.int .u32 (Sh.word s : Nat)) ∧ w = w' := by
  go_enter Tryd.func30, Tryd.ntmps30
  go_wp2
  go_loop [3, 5] (fun v i => ∃ k : Nat, k ≤ 4 ∧ i = .int .i64 k ∧ v = .int .u32 (Sh.num (s.take k) : Nat)) (fun _ i => 4 - (intOf i).toNat)
  case atStart => exact ⟨0, by omega, rfl, rfl⟩
  case round =>
    obtain ⟨k, hk, rfl, rfl⟩ := hrel
    by_cases hlt : k < 4
    · have hkl : k < s.length := by omega
      have hby := byte_at s k hkl
      have hsn : Sh.num (s.take (k + 1)) = Sh.num (s.take k) * 256 + s[k].toNat := by rw [take_snoc s k hkl, Sh.num_snoc]
      have HS := Lib.hid hsn
      clear hsn
      have hnl := Sh.num_lt (s.take k)
      have hll : (s.take k).length = k := by simp; omega
      rw [hll] at hnl
      have hnl3 : Sh.num (s.take k) < 16777216 := by
        have : 256 ^ k ≤ 256 ^ 3 := Nat.pow_le_pow_right (by decide) (by omega)
        omega
      clear hnl hll
      have hc : s[k].toNat < 256 := UInt8.toNat_lt _
      go_wp2
      go_round
      case rel => exact ⟨k + 1, by omega, by go_num, by rw [HS.out]; exact congrArg (Value.int IntKind.u32) (or_byte _ _ hnl3 hc)⟩
      case measure => simp [intOf]; omega
    · have : k = 4 := by omega
      subst this
      go_wp2
      go_ret
      exact ⟨rfl, rfl⟩

/-- Words as cells. -/
def cells (l : List Nat) : Array Value := (l.map fun x => Value.int .u32 (x : Nat)).toArray
theorem cells_size (l : List Nat) : (cells l).size = l.length := by simp [cells]
theorem cells_one (l : List Nat) : (cells l).all (·.oneCell') = true := by
  simp [cells, Value.oneCell']
theorem cells_at (l : List Nat) (i : Nat) (h : i < l.length) : (cells l)[i]? = some (.int .u32 (l.getD i 0 : Nat)) := by
  simp [cells, List.getD_eq_getElem?_getD, h]
theorem cells_set (l : List Nat) (i x : Nat) : (cells l).setIfInBounds i (.int .u32 (x : Nat)) = cells (l.set i x) := by
  apply Array.toList_inj.1
  simp [cells, List.map_set]
theorem info37 : (Tryd.prog.info? 37).map (·.size) = some 8 := by kernel_rfl
theorem info50 : (Tryd.prog.info? 50).map (·.size) = some 64 := by kernel_rfl

theorem below_setRow' {B g : Nat} {w0 w : World} (hb : Below B w0 w) (hBg : B ≤ g) (cs : Array Value) : Below B w0 (w.setRow g cs) :=
  hb.trans ⟨rfl, rfl, rfl, by simp, fun k hk => setRow_other w g k cs (by omega)⟩

theorem cut_str (l : List UInt8) (i j : Nat) : (ByteArray.mk ⟨l⟩).extract i j = ⟨⟨(l.drop i).take (j - i)⟩⟩ := by
  apply ByteArray.ext
  rw [ByteArray.data_extract]
  apply Array.toList_inj.1
  simp [List.extract_eq_take_drop]

theorem fill_set (L : List Nat) (k n : Nat) (hn : L.length = n) (hk : k < n) : (L.take k ++ List.replicate (n - k) 0).set k (L.getD k 0) = L.take (k + 1) ++ List.replicate (n - (k + 1)) 0 := by
  have hlt : (L.take k).length = k := by simp; omega
  have e : L.take (k + 1) = L.take k ++ [L[k]'(by omega)] := List.take_succ_eq_append_getElem (by omega)
  rw [e, List.set_append_right _ _ (by omega), hlt, Nat.sub_self, show n - k = (n - (k + 1)) + 1 by omega, List.replicate_succ, List.set_cons_zero, List.getD_eq_getElem?_getD, List.getElem?_eq_getElem (by omega), List.append_assoc]
  rfl
theorem row_set {wr : World} {g k n : Nat} {t : TypeId} {L : List Nat} (h : wr.heap[g]? = some (.cells (cells (L.take k ++ List.replicate (n - k) 0)) t (0, 0))) (hn : L.length = n) (hk : k < n) :
    (wr.setCell ⟨g, k, none⟩ (.int .u32 (L.getD k 0 : Nat))).heap[g]? = some (.cells (cells (L.take (k + 1) ++ List.replicate (n - (k + 1)) 0)) t (0, 0)) := by
  rw [heap_setCell_same _ _ _ _ _ _ h, cells_set, fill_set L k n hn hk]
theorem row_cell {wr : World} {g k n : Nat} {t : TypeId} {L : List Nat} (h : wr.heap[g]? = some (.cells (cells (L.take k ++ List.replicate (n - k) 0)) t (0, 0))) (hn : L.length = n) (hk : k < n) :
    wr.cell? ⟨g, k, none⟩ = some (.int .u32 (0 : Nat)) := by
  have hlt : (L.take k).length = k := by simp; omega
  rw [cell_of_row _ _ _ _ _ _ h, cells_at _ _ (by simp; omega), List.getD_eq_getElem?_getD, List.getElem?_append_right (by omega), hlt, Nat.sub_self, show n - k = (n - (k + 1)) + 1 by omega]
  rfl

theorem rds_word (s : List UInt8) : ∀ k, k < 8 → Sh.word (s.drop (k * 4)) = (Sh.rds s).list.getD k 0
  | 0, _ => rfl | 1, _ => rfl | 2, _ => rfl | 3, _ => rfl | 4, _ => rfl | 5, _ => rfl | 6, _ => rfl | 7, _ => rfl
  | n + 8, h => absurd h (by omega)

set_option maxRecDepth 100000 in
theorem readState_any (s : List UInt8) (w : World) (hs : s.length = 32) :
    Calls Tryd.prog 22 #[.string ⟨⟨s⟩⟩] w fun e w' => e = .returned (.agg (cells (Sh.rds s).list)) ∧ Below w.heap.size w w' := by
  go_enter Tryd.func22, Tryd.ntmps22
  go_wp2
  go_loopw [5] (fun i wr => ∃ k : Nat, k ≤ 8 ∧ i = .int .i64 k ∧ Below w.heap.size w wr ∧ w.heap.size + 2 ≤ wr.heap.size ∧ Hid (wr.heap[w.heap.size]? = some (.cells (cells [0, 0, 0, 0, 0, 0, 0, 0]) 37 (0, 0))) ∧ Hid (wr.heap[w.heap.size + 1]? = some (.cells (cells ((Sh.rds s).list.take k ++ List.replicate (8 - k) 0)) 37 (0, 0)))) (fun i _ => 8 - (intOf i).toNat)
  case atStart => exact ⟨0, by omega, rfl, ((Below.refl _ _).alloc (Nat.le_refl _) _).alloc (by simp) _, by simp, heap_alloc2_old _ _ _, heap_alloc2_new _ _ _⟩
  case round =>
    obtain ⟨k, hk, rfl, hb, hz, HC0, HC1⟩ := hrel
    by_cases hlt : k < 8
    · have hcell := row_cell HC1.out rfl hlt
      have hfro := frozen_of_row _ _ k _ _ HC1.out
      have HW := Lib.hid (rds_word s k hlt)
      go_wp2_with fail
      rw [cut_str, ← hs, List.take_of_length_le (by simp)]
      refine (readWord_any (s.drop (k * 4)) wr (by simp; omega) (by simp; omega)).mono ?_
      rintro e w' ⟨rfl, rfl⟩
      rw [HW.out]
      go_wp2
      go_roundw
      case rel => exact ⟨k + 1, by omega, by go_num, hb.setCell (by show w.heap.size ≤ w.heap.size + 1; omega) _, by simp [World.setCell]; omega, by rw [Hid, heap_setCell_other _ _ _ _ (by show w.heap.size ≠ w.heap.size + 1; omega)]; exact HC0.out, row_set HC1.out rfl hlt⟩
      case measure => simp [intOf]; omega
    · obtain rfl : k = 8 := by omega
      have HR : Hid (wr.heap[w.heap.size + 1]? = some (.cells (cells (Sh.rds s).list) 37 (0, 0))) := HC1
      clear HC1
      go_wp2_with (first | (refine wpList_load_row rfl 37 (.tmp 3) rfl (w.heap.size + 1) rfl 37 (cells (Sh.rds s).list) (0, 0) _ HR.out Tryd.underlying37 rfl info37 ?_) | (refine wpList_store_row rfl 37 (.tmp 2) (.tmp 16) rfl w.heap.size (cells (Sh.rds s).list) rfl rfl 37 _ HC0.out info37 rfl (cells_one _) ?_))
      exact bodyPost_ret (v := .agg (cells (Sh.rds s).list)) (results_cell_row Tryd.results22 _ _ w.heap.size 37 _ (0, 0) _ rfl (setRow_heap _ _ _ _ _ _ HC0.out) Tryd.underlying37 rfl info37) rfl ⟨rfl, below_setRow' hb (Nat.le_refl _) _⟩
end Go.Proofs.YtgdfgaobaaledaaDoor
