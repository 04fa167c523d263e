/- readWord. -/
import Derived.Test.YtjoaajjfmmiaaaaShaW1
namespace Go.Proofs.Ytjoaajjfmmiaaaa
open Go.RowKit

theorem byte_at (s : List UInt8) (k : Nat) (h : k < s.length) : (ByteArray.mk ⟨s⟩)[k]'h = s[k] := rfl
theorem take_snoc (s : List UInt8) (k : Nat) (h : k < s.length) : s.take (k + 1) = s.take k ++ [s[k]] := by rw [List.take_succ_eq_append_getElem h]

theorem or_byte (m c : Nat) (hm : m < 16777216) (hc : c < 256) : bits BinOp.or IntKind.u32 ((m : Int) * 256) (c : Int) = ((m * 256 + c : Nat) : Int) := by
  rw [show ((m : Int) * 256) = ((m * 256 : Nat) : Int) by simp, u32_or_nat _ _ (by omega) (by omega), nat_join 8 (m * 256) c (by omega) (by omega)]

/-- Words as cells. -/
def cells (l : List Nat) : Array Value := (l.map fun x => Value.int .u32 (x : Nat)).toArray
theorem cells_size (l : List Nat) : (cells l).size = l.length := by simp [cells]
theorem cells_one (l : List Nat) : (cells l).all (·.oneCell') = true := by
  simp [cells, Value.oneCell']
theorem cells_at (l : List Nat) (i : Nat) (h : i < l.length) : (cells l)[i]? = some (.int .u32 (l.getD i 0 : Nat)) := by
  simp [cells, List.getD_eq_getElem?_getD, h]
theorem cells_set (l : List Nat) (i x : Nat) : (cells l).setIfInBounds i (.int .u32 (x : Nat)) = cells (l.set i x) := by
  apply Array.toList_inj.1
  simp [cells, List.map_set]
theorem below_setRow' {B g : Nat} {w0 w : World} (hb : Below B w0 w) (hBg : B ≤ g) (cs : Array Value) : Below B w0 (w.setRow g cs) :=
  hb.trans ⟨rfl, rfl, rfl, by simp, fun k hk => setRow_other w g k cs (by omega)⟩

theorem cut_str (l : List UInt8) (i j : Nat) : (ByteArray.mk ⟨l⟩).extract i j = ⟨⟨(l.drop i).take (j - i)⟩⟩ := by
  apply ByteArray.ext
  rw [ByteArray.data_extract]
  apply Array.toList_inj.1
  simp [List.extract_eq_take_drop]

theorem fill_set (L : List Nat) (k n : Nat) (hn : L.length = n) (hk : k < n) : (L.take k ++ List.replicate (n - k) 0).set k (L.getD k 0) = L.take (k + 1) ++ List.replicate (n - (k + 1)) 0 := by
  have hlt : (L.take k).length = k := by simp; omega
  have e : L.take (k + 1) = L.take k ++ [L[k]'(by omega)] := List.take_succ_eq_append_getElem (by omega)
  rw [e, List.set_append_right _ _ (by omega), hlt, Nat.sub_self, show n - k = (n - (k + 1)) + 1 by omega, List.replicate_succ, List.set_cons_zero, List.getD_eq_getElem?_getD, List.getElem?_eq_getElem (by omega), List.append_assoc]
  rfl
theorem row_set {wr : World} {g k n : Nat} {t : TypeId} {L : List Nat} (h : wr.heap[g]? = some (.cells (cells (L.take k ++ List.replicate (n - k) 0)) t (0, 0))) (hn : L.length = n) (hk : k < n) :
    (wr.setCell ⟨g, k, none⟩ (.int .u32 (L.getD k 0 : Nat))).heap[g]? = some (.cells (cells (L.take (k + 1) ++ List.replicate (n - (k + 1)) 0)) t (0, 0)) := by
  rw [heap_setCell_same _ _ _ _ _ _ h, cells_set, fill_set L k n hn hk]
theorem row_cell {wr : World} {g k n : Nat} {t : TypeId} {L : List Nat} (h : wr.heap[g]? = some (.cells (cells (L.take k ++ List.replicate (n - k) 0)) t (0, 0))) (hn : L.length = n) (hk : k < n) :
    wr.cell? ⟨g, k, none⟩ = some (.int .u32 (0 : Nat)) := by
  have hlt : (L.take k).length = k := by simp; omega
  rw [cell_of_row _ _ _ _ _ _ h, cells_at _ _ (by simp; omega), List.getD_eq_getElem?_getD, List.getElem?_append_right (by omega), hlt, Nat.sub_self, show n - k = (n - (k + 1)) + 1 by omega]
  rfl

theorem rds_word (s : List UInt8) : ∀ k, k < 8 → Sh.word (s.drop (k * 4)) = (Sh.rds s).list.getD k 0
  | 0, _ => rfl | 1, _ => rfl | 2, _ => rfl | 3, _ => rfl | 4, _ => rfl | 5, _ => rfl | 6, _ => rfl | 7, _ => rfl
  | n + 8, h => absurd h (by omega)

end Go.Proofs.Ytjoaajjfmmiaaaa
