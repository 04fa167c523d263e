/- readWord. -/
import Derived.Test.YtdjehpbkkbahcaaDoorShaW1
namespace Go.Proofs.YtdjehpbkkbahcaaDoor
open Go.RowKit

theorem byte_at (s : List UInt8) (k : Nat) (h : k < s.length) : (ByteArray.mk ⟨s⟩)[k]'h = s[k] := rfl
theorem take_snoc (s : List UInt8) (k : Nat) (h : k < s.length) : s.take (k + 1) = s.take k ++ [s[k]] := by rw [List.take_succ_eq_append_getElem h]

theorem or_byte (m c : Nat) (hm : m < 16777216) (hc : c < 256) : bits BinOp.or IntKind.u32 ((m : Int) * 256) (c : Int) = ((m * 256 + c : Nat) : Int) := by
  rw [show ((m : Int) * 256) = ((m * 256 : Nat) : Int) by simp, u32_or_nat _ _ (by omega) (by omega), nat_join 8 (m * 256) c (by omega) (by omega)]

set_option maxRecDepth 100000 in
theorem readWord_any (s : List UInt8) (w : World) (h4 : 4 ≤ s.length) (hs : s.length ≤ 100000000) :
    Calls Tryd.prog 79 #[.string ⟨⟨s⟩⟩] w fun e w' => e = .returned (.int .u32 (Sh.word s : Nat)) ∧ w = w' := by
  go_enter Tryd.func79, Tryd.ntmps79
  go_wp2
  go_loop [3, 5] (fun v i => ∃ k : Nat, k ≤ 4 ∧ i = .int .i64 k ∧ v = .int .u32 (Sh.num (s.take k) : Nat)) (fun _ i => 4 - (intOf i).toNat)
  case atStart => exact ⟨0, by omega, rfl, rfl⟩
  case round =>
    obtain ⟨k, hk, rfl, rfl⟩ := hrel
    by_cases hlt : k < 4
    · have hkl : k < s.length := by omega
      have hby := byte_at s k hkl
      have hsn : Sh.num (s.take (k + 1)) = Sh.num (s.take k) * 256 + s[k].toNat := by rw [take_snoc s k hkl, Sh.num_snoc]
      have HS := Lib.hid hsn
      clear hsn
      have hnl := Sh.num_lt (s.take k)
      have hll : (s.take k).length = k := by simp; omega
      rw [hll] at hnl
      have hnl3 : Sh.num (s.take k) < 16777216 := by
        have : 256 ^ k ≤ 256 ^ 3 := Nat.pow_le_pow_right (by decide) (by omega)
        omega
      clear hnl hll
      have hc : s[k].toNat < 256 := UInt8.toNat_lt _
      go_wp2
      go_round
      case rel => exact ⟨k + 1, by omega, by go_num, by rw [HS.out]; exact congrArg (Value.int IntKind.u32) (or_byte _ _ hnl3 hc)⟩
      case measure => simp [intOf]; omega
    · have : k = 4 := by omega
      subst this
      go_wp2
      go_ret
      exact ⟨rfl, rfl⟩

/-- Words as cells. -/
def cells (l : List Nat) : Array Value := (l.map fun x => Value.int .u32 (x : Nat)).toArray
theorem cells_size (l : List Nat) : (cells l).size = l.length := by simp [cells]
theorem cells_one (l : List Nat) : (cells l).all (·.oneCell') = true := by
  simp [cells, Value.oneCell']
theorem cells_at (l : List Nat) (i : Nat) (h : i < l.length) : (cells l)[i]? = some (.int .u32 (l.getD i 0 : Nat)) := by
  simp [cells, List.getD_eq_getElem?_getD, h]
theorem cells_set (l : List Nat) (i x : Nat) : (cells l).setIfInBounds i (.int .u32 (x : Nat)) = cells (l.set i x) := by
  apply Array.toList_inj.1
  simp [cells, List.map_set]
theorem info37 : (Tryd.prog.info? 64).map (·.size) = some 8 := by kernel_rfl
theorem info50 : (Tryd.prog.info? 82).map (·.size) = some 64 := by kernel_rfl

theorem below_setRow' {B g : Nat} {w0 w : World} (hb : Below B w0 w) (hBg : B ≤ g) (cs : Array Value) : Below B w0 (w.setRow g cs) :=
  hb.trans ⟨rfl, rfl, rfl, by simp, fun k hk => setRow_other w g k cs (by omega)⟩

theorem cut_str (l : List UInt8) (i j : Nat) : (ByteArray.mk ⟨l⟩).extract i j = ⟨⟨(l.drop i).take (j - i)⟩⟩ := by
  apply ByteArray.ext
  rw [ByteArray.data_extract]
  apply Array.toList_inj.1
  simp [List.extract_eq_take_drop]

theorem fill_set (L : List Nat) (k n : Nat) (hn : L.length = n) (hk : k < n) : (L.take k ++ List.replicate (n - k) 0).set k (L.getD k 0) = L.take (k + 1) ++ List.replicate (n - (k + 1)) 0 := by
  have hlt : (L.take k).length = k := by simp; omega
  have e : L.take (k + 1) = L.take k ++ [L[k]'(by omega)] := List.take_succ_eq_append_getElem (by omega)
  rw [e, List.set_append_right _ _ (by omega), hlt, Nat.sub_self, show n - k = (n - (k + 1)) + 1 by omega, List.replicate_succ, List.set_cons_zero, List.getD_eq_getElem?_getD, List.getElem?_eq_getElem (by omega), List.append_assoc]
  rfl
theorem row_set {wr : World} {g k n : Nat} {t : TypeId} {L : List Nat} (h : wr.heap[g]? = some (.cells (cells (L.take k ++ List.replicate (n - k) 0)) t (0, 0))) (hn : L.length = n) (hk : k < n) :
    (wr.setCell ⟨g, k, none⟩ (.int .u32 (L.getD k 0 : Nat))).heap[g]? = some (.cells (cells (L.take (k + 1) ++ List.replicate (n - (k + 1)) 0)) t (0, 0)) := by
  rw [heap_setCell_same _ _ _ _ _ _ h, cells_set, fill_set L k n hn hk]
theorem row_cell {wr : World} {g k n : Nat} {t : TypeId} {L : List Nat} (h : wr.heap[g]? = some (.cells (cells (L.take k ++ List.replicate (n - k) 0)) t (0, 0))) (hn : L.length = n) (hk : k < n) :
    wr.cell? ⟨g, k, none⟩ = some (.int .u32 (0 : Nat)) := by
  have hlt : (L.take k).length = k := by simp; omega
  rw [cell_of_row _ _ _ _ _ _ h, cells_at _ _ (by simp; omega), List.getD_eq_getElem?_getD, List.getElem?_append_right (by omega), hlt, Nat.sub_self, show n - k = (n - (k + 1)) + 1 by omega]
  rfl

theorem rds_word (s : List UInt8) : ∀ k, k < 8 → Sh.word (s.drop (k * 4)) = (Sh.rds s).list.getD k 0
  | 0, _ => rfl | 1, _ => rfl | 2, _ => rfl | 3, _ => rfl | 4, _ => rfl | 5, _ => rfl | 6, _ => rfl | 7, _ => rfl
  | n + 8, h => absurd h (by omega)

end Go.Proofs.YtdjehpbkkbahcaaDoor
