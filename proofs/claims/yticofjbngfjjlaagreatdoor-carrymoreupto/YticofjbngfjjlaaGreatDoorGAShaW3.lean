/- readWord. -/
import Derived.Test.YticofjbngfjjlaaGreatDoorGAAePureC
import Derived.Lib.ConvBytes
import Derived.Lib.AppendZerosOnto
namespace Go.Proofs.YticofjbngfjjlaaGreatDoor
open Go.RowKit

theorem byte_at (s : List UInt8) (k : Nat) (h : k < s.length) : (ByteArray.mk ⟨s⟩)[k]'h = s[k] := rfl
theorem take_snoc (s : List UInt8) (k : Nat) (h : k < s.length) : s.take (k + 1) = s.take k ++ [s[k]] := by rw [List.take_succ_eq_append_getElem h]

theorem or_byte (m c : Nat) (hm : m < 16777216) (hc : c < 256) : bits BinOp.or IntKind.u32 ((m : Int) * 256) (c : Int) = ((m * 256 + c : Nat) : Int) := by
  rw [show ((m : Int) * 256) = ((m * 256 : Nat) : Int) by simp, u32_or_nat _ _ (by omega) (by omega), nat_join 8 (m * 256) c (by omega) (by omega)]

set_option maxRecDepth 100000 in
theorem readWord_any (s : List UInt8) (w : World) (h4 : 4 ≤ s.length) (hs : s.length ≤ 100000000) :
    Calls Tryz.prog 199 #[.string ⟨⟨s⟩⟩] w fun e w' => e = .returned (.int .u32 (Sh.word s : Nat)) ∧ w = w' := by
  go_enter Tryz.func199, Tryz.ntmps199
  go_wp2
  go_loop [3, 5] (fun v i => ∃ k : Nat, k ≤ 4 ∧ i = .int .i64 k ∧ v = .int .u32 (Sh.num (s.take k) : Nat)) (fun _ i => 4 - (intOf i).toNat)
  case atStart => exact ⟨0, by omega, rfl, rfl⟩
  case round =>
    obtain ⟨k, hk, rfl, rfl⟩ := hrel
    by_cases hlt : k < 4
    · have hkl : k < s.length := by omega
      have hby := byte_at s k hkl
      have hsn : Sh.num (s.take (k + 1)) = Sh.num (s.take k) * 256 + s[k].toNat := by rw [take_snoc s k hkl, Sh.num_snoc]
      have HS := Lib.hid hsn
      clear hsn
      have hnl := Sh.num_lt (s.take k)
      have hll : (s.take k).length = k := by simp; omega
      rw [hll] at hnl
      have hnl3 : Sh.num (s.take k) < 16777216 := by
        have : 256 ^ k ≤ 256 ^ 3 := Nat.pow_le_pow_right (by decide) (by omega)
        omega
      clear hnl hll
      have hc : s[k].toNat < 256 := UInt8.toNat_lt _
      go_wp2
      go_round
      case rel => exact ⟨k + 1, by omega, by go_num, by rw [HS.out]; exact congrArg (Value.int IntKind.u32) (or_byte _ _ hnl3 hc)⟩
      case measure => simp [intOf]; omega
    · have : k = 4 := by omega
      subst this
      go_wp2
      go_ret
      exact ⟨rfl, rfl⟩

/-- Words as cells. -/
def cells (l : List Nat) : Array Value := (l.map fun x => Value.int .u32 (x : Nat)).toArray
theorem cells_size (l : List Nat) : (cells l).size = l.length := by simp [cells]
theorem cells_one (l : List Nat) : (cells l).all (·.oneCell') = true := by
  simp [cells, Value.oneCell']
theorem cells_at (l : List Nat) (i : Nat) (h : i < l.length) : (cells l)[i]? = some (.int .u32 (l.getD i 0 : Nat)) := by
  simp [cells, List.getD_eq_getElem?_getD, h]
theorem cells_set (l : List Nat) (i x : Nat) : (cells l).setIfInBounds i (.int .u32 (x : Nat)) = cells (l.set i x) := by
  apply Array.toList_inj.1
  simp [cells, List.map_set]
theorem info37 : (Tryz.prog.info? 133).map (·.size) = some 8 := by kernel_rfl
theorem info50 : (Tryz.prog.info? 179).map (·.size) = some 64 := by kernel_rfl

theorem below_setRow' {B g : Nat} {w0 w : World} (hb : Below B w0 w) (hBg : B ≤ g) (cs : Array Value) : Below B w0 (w.setRow g cs) :=
  hb.trans ⟨rfl, rfl, rfl, by simp, fun k hk => setRow_other w g k cs (by omega)⟩

theorem cut_str (l : List UInt8) (i j : Nat) : (ByteArray.mk ⟨l⟩).extract i j = ⟨⟨(l.drop i).take (j - i)⟩⟩ := by
  apply ByteArray.ext
  rw [ByteArray.data_extract]
  apply Array.toList_inj.1
  simp [List.extract_eq_take_drop]

theorem fill_set (L : List Nat) (k n : Nat) (hn : L.length = n) (hk : k < n) : (L.take k ++ List.replicate (n - k) 0).set k (L.getD k 0) = L.take (k + 1) ++ List.replicate (n - (k + 1)) 0 := by
  have hlt : (L.take k).length = k := by simp; omega
  have e : L.take (k + 1) = L.take k ++ [L[k]'(by omega)] := List.take_succ_eq_append_getElem (by omega)
  rw [e, List.set_append_right _ _ (by omega), hlt, Nat.sub_self, show n - k = (n - (k + 1)) + 1 by omega, List.replicate_succ, List.set_cons_zero, List.getD_eq_getElem?_getD, List.getElem?_eq_getElem (by omega), List.append_assoc]
  rfl
theorem row_set {wr : World} {g k n : Nat} {t : TypeId} {L : List Nat} (h : wr.heap[g]? = some (.cells (cells (L.take k ++ List.replicate (n - k) 0)) t (0, 0))) (hn : L.length = n) (hk : k < n) :
    (wr.setCell ⟨g, k, none⟩ (.int .u32 (L.getD k 0 : Nat))).heap[g]? = some (.cells (cells (L.take (k + 1) ++ List.replicate (n - (k + 1)) 0)) t (0, 0)) := by
  rw [heap_setCell_same _ _ _ _ _ _ h, cells_set, fill_set L k n hn hk]
theorem row_cell {wr : World} {g k n : Nat} {t : TypeId} {L : List Nat} (h : wr.heap[g]? = some (.cells (cells (L.take k ++ List.replicate (n - k) 0)) t (0, 0))) (hn : L.length = n) (hk : k < n) :
    wr.cell? ⟨g, k, none⟩ = some (.int .u32 (0 : Nat)) := by
  have hlt : (L.take k).length = k := by simp; omega
  rw [cell_of_row _ _ _ _ _ _ h, cells_at _ _ (by simp; omega), List.getD_eq_getElem?_getD, List.getElem?_append_right (by omega), hlt, Nat.sub_self, show n - k = (n - (k + 1)) + 1 by omega]
  rfl

theorem rds_word (s : List UInt8) : ∀ k, k < 8 → Sh.word (s.drop (k * 4)) = (Sh.rds s).list.getD k 0
  | 0, _ => rfl | 1, _ => rfl | 2, _ => rfl | 3, _ => rfl | 4, _ => rfl | 5, _ => rfl | 6, _ => rfl | 7, _ => rfl
  | n + 8, h => absurd h (by omega)

end Go.Proofs.YticofjbngfjjlaaGreatDoor

/- start, text. -/

namespace Go.Proofs.YticofjbngfjjlaaGreatDoor
open Go.RowKit

/-- The tables hold what they were laid with. -/
structure Tabs (w : World) : Prop where
  sq : ∀ i, i < 8 → w.cell? ⟨0, i, none⟩ = some (.int .u32 (Sh.SQ.getD i 0 : Nat))
  kk : ∀ i, i < 64 → w.cell? ⟨1, i, none⟩ = some (.int .u32 (Sh.KK.getD i 0 : Nat))
  size : 2 ≤ w.heap.size
theorem Tabs.below {w w' : World} (h : Tabs w) (hb : Below w.heap.size w w') : Tabs w' :=
  ⟨fun i hi => by rw [hb.cell (p := ⟨0, i, none⟩) (by have := h.size; show 0 < _; omega)]; exact h.sq i hi, fun i hi => by rw [hb.cell (p := ⟨1, i, none⟩) (by have := h.size; show 1 < _; omega)]; exact h.kk i hi, Nat.le_trans h.size hb.size⟩

set_option maxRecDepth 100000 in
theorem start_any (w : World) (HT : Tabs w) :
    Calls Tryz.prog 123 #[] w fun e w' => e = .returned (.agg (cells Sh.SQ)) ∧ Below w.heap.size w w' := by
  have hts := HT.size
  go_enter Tryz.func123, Tryz.ntmps123
  go_wp2
  go_loopw [3] (fun i wr => ∃ k : Nat, k ≤ 8 ∧ i = .int .i64 k ∧ Below w.heap.size w wr ∧ w.heap.size + 2 ≤ wr.heap.size ∧ Hid (wr.heap[w.heap.size]? = some (.cells (cells [0, 0, 0, 0, 0, 0, 0, 0]) 133 (0, 0))) ∧ Hid (wr.heap[w.heap.size + 1]? = some (.cells (cells (Sh.SQ.take k ++ List.replicate (8 - k) 0)) 133 (0, 0)))) (fun i _ => 8 - (intOf i).toNat)
  case atStart => exact ⟨0, by omega, rfl, ((Below.refl _ _).alloc (Nat.le_refl _) _).alloc (by simp) _, by simp, heap_alloc2_old _ _ _, heap_alloc2_new _ _ _⟩
  case round =>
    obtain ⟨k, hk, rfl, hb, hz, HC0, HC1⟩ := hrel
    by_cases hlt : k < 8
    · have hcell := row_cell HC1.out rfl hlt
      have hfro := frozen_of_row _ _ k _ _ HC1.out
      have htab := (HT.below hb).sq k hlt
      go_wp2
      go_roundw
      case rel => exact ⟨k + 1, by omega, by go_num, hb.setCell (by show w.heap.size ≤ w.heap.size + 1; omega) _, by simp [World.setCell]; omega, by rw [Hid, heap_setCell_other _ _ _ _ (by show w.heap.size ≠ w.heap.size + 1; omega)]; exact HC0.out, row_set HC1.out rfl hlt⟩
      case measure => simp [intOf]; omega
    · obtain rfl : k = 8 := by omega
      have HR : Hid (wr.heap[w.heap.size + 1]? = some (.cells (cells Sh.SQ) 133 (0, 0))) := HC1
      clear HC1
      go_wp2_with (first | (refine wpList_load_row rfl 133 (.tmp 1) rfl (w.heap.size + 1) rfl 133 (cells Sh.SQ) (0, 0) _ HR.out Tryz.underlying133 rfl info37 ?_) | (refine wpList_store_row rfl 133 (.tmp 0) (.tmp 12) rfl w.heap.size (cells Sh.SQ) rfl rfl 133 _ HC0.out info37 rfl (cells_one _) ?_))
      exact bodyPost_ret (v := .agg (cells Sh.SQ)) (results_cell_row Tryz.results123 _ _ w.heap.size 133 _ (0, 0) _ rfl (setRow_heap _ _ _ _ _ _ HC0.out) Tryz.underlying133 rfl info37) rfl ⟨rfl, below_setRow' hb (Nat.le_refl _) _⟩

/-- Bytes as cells. -/
def bcells (l : List UInt8) : Array Value := (l.map fun b => Value.int .u8 (b.toNat : Nat)).toArray
theorem bcells_at (l : List UInt8) (i : Nat) (h : i < l.length) : (bcells l)[i]? = some (.int .u8 ((l.getD i 0).toNat : Nat)) := by
  simp [bcells, List.getD_eq_getElem?_getD, h]
theorem bcells_set (l : List UInt8) (i : Nat) (x : UInt8) : (bcells l).setIfInBounds i (.int .u8 (x.toNat : Nat)) = bcells (l.set i x) := by
  apply Array.toList_inj.1
  simp [bcells, List.map_set]
theorem info5 : (Tryz.prog.info? 5).map (fun i => (i.zero, i.size, i.bytes)) = some (some (.int .u8 0), 1, 1) := by kernel_rfl
theorem made_zero (n : Nat) : madeCells #[Value.int .u8 0] n = bcells (List.replicate n 0) := by
  apply Array.toList_inj.1
  simp only [madeCells, bcells, List.map_replicate, List.size_toArray, List.length_singleton, Array.toList_map, Nat.mod_one]
  apply List.ext_getElem
  · simp
  · intro i h1 h2
    simp
theorem make_any (n : Nat) (h : n ≤ 1000000) (W : World) : (Instr.makeSlice 31 (.int .i64 (n : Int)) (.int .i64 (n : Int))).run Tryz.prog W = .ok (.slice (some ⟨W.heap.size, 0, none⟩) n n) (W.alloc (.cells (bcells (List.replicate n 0)) 5)) := by
  obtain ⟨i, hi, he⟩ := Option.map_eq_some_iff.1 info5
  simp only [Prod.mk.injEq] at he
  obtain ⟨hz, hs, hb⟩ := he
  have hr := run_make (P := Tryz.prog) W 31 5 i _ Tryz.underlying31 hi hz .i64 .i64 n n (by omega) (by omega) (by rw [hb]; omega) (by omega)
  rw [hr, hs, Int.toNat_natCast, Nat.mul_one]
  show _ = Result.ok _ (W.alloc (.cells _ _))
  rw [← made_zero]
  rfl
theorem bfill_set (L : List UInt8) (k n : Nat) (hn : L.length = n) (hk : k < n) : (L.take k ++ List.replicate (n - k) 0).set k (L.getD k 0) = L.take (k + 1) ++ List.replicate (n - (k + 1)) 0 := by
  have hlt : (L.take k).length = k := by simp; omega
  have e : L.take (k + 1) = L.take k ++ [L[k]'(by omega)] := List.take_succ_eq_append_getElem (by omega)
  rw [e, List.set_append_right _ _ (by omega), hlt, Nat.sub_self, show n - k = (n - (k + 1)) + 1 by omega, List.replicate_succ, List.set_cons_zero, List.getD_eq_getElem?_getD, List.getElem?_eq_getElem (by omega), List.append_assoc]
  rfl
theorem brow_set {wr : World} {g k n : Nat} {t : TypeId} {L : List UInt8} (h : wr.heap[g]? = some (.cells (bcells (L.take k ++ List.replicate (n - k) 0)) t (0, 0))) (hn : L.length = n) (hk : k < n) :
    (wr.setCell ⟨g, k, none⟩ (.int .u8 ((L.getD k 0).toNat : Nat))).heap[g]? = some (.cells (bcells (L.take (k + 1) ++ List.replicate (n - (k + 1)) 0)) t (0, 0)) := by
  rw [heap_setCell_same _ _ _ _ _ _ h, bcells_set, bfill_set L k n hn hk]
theorem brow_cell {wr : World} {g k n : Nat} {t : TypeId} {L : List UInt8} (h : wr.heap[g]? = some (.cells (bcells (L.take k ++ List.replicate (n - k) 0)) t (0, 0))) (hn : L.length = n) (hk : k < n) :
    wr.cell? ⟨g, k, none⟩ = some (.int .u8 (0 : Nat)) := by
  have hlt : (L.take k).length = k := by simp; omega
  rw [cell_of_row _ _ _ _ _ _ h, bcells_at _ _ (by simp; omega), List.getD_eq_getElem?_getD, List.getElem?_append_right (by omega), hlt, Nat.sub_self, show n - k = (n - (k + 1)) + 1 by omega]
  rfl
theorem conv_any (W : World) (g cap : Nat) (l : List UInt8) (t : TypeId) (fr : Nat × Nat) (cur : Array Value) (h : W.heap[g]? = some (.cells cur t fr)) (hc : ∀ j, j < l.length → cur[j]? = some (.int .u8 ((l.getD j 0).toNat : Nat))) :
    (convert 31 9 (.slice (some ⟨g, 0, none⟩) l.length cap)).run Tryz.prog W = .ok (.string ⟨⟨l⟩⟩) W :=
  run_convert_bytes_back (P := Tryz.prog) W 31 9 5 ⟨g, 0, none⟩ cap l Tryz.underlying31 Tryz.underlying5 Tryz.underlying9 (fun j hj => by
    rw [Addr.add_lit, cell_of_row _ _ _ _ _ _ h]
    have := hc j hj
    simpa [List.getD_eq_getElem?_getD, hj] using this)

theorem byt_one (x : Nat) : (UInt8.ofNat x).toNat = x / 1 % 256 := by rw [Nat.div_one]; exact UInt8.toNat_ofNat'
theorem txt_byte (v : Sh.St) : ∀ k, k < 32 → ((Sh.txt v).getD k 0).toNat = v.list.getD (k / 4) 0 / 2 ^ (8 * (3 - k % 4)) % 256
  | 0, _ => UInt8.toNat_ofNat'
  | 1, _ => UInt8.toNat_ofNat'
  | 2, _ => UInt8.toNat_ofNat'
  | 3, _ => byt_one _
  | 4, _ => UInt8.toNat_ofNat'
  | 5, _ => UInt8.toNat_ofNat'
  | 6, _ => UInt8.toNat_ofNat'
  | 7, _ => byt_one _
  | 8, _ => UInt8.toNat_ofNat'
  | 9, _ => UInt8.toNat_ofNat'
  | 10, _ => UInt8.toNat_ofNat'
  | 11, _ => byt_one _
  | 12, _ => UInt8.toNat_ofNat'
  | 13, _ => UInt8.toNat_ofNat'
  | 14, _ => UInt8.toNat_ofNat'
  | 15, _ => byt_one _
  | 16, _ => UInt8.toNat_ofNat'
  | 17, _ => UInt8.toNat_ofNat'
  | 18, _ => UInt8.toNat_ofNat'
  | 19, _ => byt_one _
  | 20, _ => UInt8.toNat_ofNat'
  | 21, _ => UInt8.toNat_ofNat'
  | 22, _ => UInt8.toNat_ofNat'
  | 23, _ => byt_one _
  | 24, _ => UInt8.toNat_ofNat'
  | 25, _ => UInt8.toNat_ofNat'
  | 26, _ => UInt8.toNat_ofNat'
  | 27, _ => byt_one _
  | 28, _ => UInt8.toNat_ofNat'
  | 29, _ => UInt8.toNat_ofNat'
  | 30, _ => UInt8.toNat_ofNat'
  | 31, _ => byt_one _
  | n + 32, h => absurd h (by omega)

set_option maxRecDepth 100000 in
theorem text_any (v : Sh.St) (w : World) :
    Calls Tryz.prog 126 #[.agg (cells v.list)] w fun e w' => e = .returned (.string ⟨⟨Sh.txt v⟩⟩) ∧ Below w.heap.size w w' := by
  have hmk := make_any 32 (by decide)
  simp only [Int.cast_ofNat_Int] at hmk
  go_enter Tryz.func126, Tryz.ntmps126
  go_wp2
  go_loopw [8] (fun i wr => ∃ k : Nat, k ≤ 32 ∧ i = .int .i64 k ∧ Below w.heap.size w wr ∧ w.heap.size + 2 ≤ wr.heap.size ∧ Hid (wr.heap[w.heap.size]? = some (.cells (cells v.list) 133 (0, 0))) ∧ Hid (wr.heap[w.heap.size + 1]? = some (.cells (bcells ((Sh.txt v).take k ++ List.replicate (32 - k) 0)) 5 (0, 0)))) (fun i _ => 32 - (intOf i).toNat)
  case atStart => exact ⟨0, by omega, rfl, ((Below.refl _ _).alloc (Nat.le_refl _) _).alloc (by simp) _, by simp, heap_alloc2_old _ _ _, heap_alloc2_new _ _ _⟩
  case round =>
    obtain ⟨k, hk, rfl, hb, hz, HC0, HC1⟩ := hrel
    by_cases hlt : k < 32
    · have hcell := brow_cell HC1.out rfl hlt
      have hfro := frozen_of_row _ _ k _ _ HC1.out
      have hd : k / 4 < 8 := by omega
      have hrd : wr.cell? ⟨w.heap.size, k / 4, none⟩ = some (.int .u32 (v.list.getD (k / 4) 0 : Nat)) := by
        rw [cell_of_row _ _ _ _ _ _ HC0.out, cells_at _ _ (by show k / 4 < 8; omega)]
      have hval : ((v.list[k / 4]?.getD 0 : Nat) : Int) / 2 ^ (8 * (3 - k % 4)) % 256 = (((Sh.txt v).getD k 0).toNat : Nat) := by rw [txt_byte v k hlt, List.getD_eq_getElem?_getD]; simp
      have HV := Lib.hid hval
      clear hmk hval
      go_wp2
      rw [HV.out]
      go_roundw
      case rel => exact ⟨k + 1, by omega, by go_num, hb.setCell (by show w.heap.size ≤ w.heap.size + 1; omega) _, by simp [World.setCell]; omega, by rw [Hid, heap_setCell_other _ _ _ _ (by show w.heap.size ≠ w.heap.size + 1; omega)]; exact HC0.out, brow_set HC1.out rfl hlt⟩
      case measure => simp [intOf]; omega
    · obtain rfl : k = 32 := by omega
      have hcv := conv_any wr (w.heap.size + 1) 32 (Sh.txt v) 5 (0, 0) _ HC1.out (fun j hj => bcells_at (Sh.txt v) j hj)
      rw [Sh.txt_length] at hcv
      clear hmk
      go_wp2
      go_ret
      exact ⟨rfl, hb⟩
end Go.Proofs.YticofjbngfjjlaaGreatDoor

/- noughts, Pad. -/

namespace Go.Proofs.YticofjbngfjjlaaGreatDoor
open Go.RowKit

theorem ret_i64 {a b : Int} (h : a = b) : Ending.returned (.int .i64 a) = .returned (.int .i64 b) := by rw [h]

set_option maxRecDepth 100000 in
theorem noughts_any (n : Nat) (w : World) (hn : n ≤ 9223372036854775807) :
    Calls Tryz.prog 155 #[.int .i64 n] w fun e w' => e = .returned (.int .i64 (Sh.noughts n : Nat)) ∧ w = w' := by
  have HN : Hid ((64 - ((n : Int) % 64 + 1 + 8) % 64) % 64 = ((Sh.noughts n : Nat) : Int)) := by rw [Hid, Sh.noughts]; omega
  go_enter Tryz.func155, Tryz.ntmps155
  go_wp2
  go_ret
  refine ⟨ret_i64 ?_, rfl⟩
  rw [← HN.out]

/-- Bytes as values. -/
def bvals (l : List UInt8) : List Value := l.map fun b => Value.int .u8 (b.toNat : Nat)
theorem bvals_length (l : List UInt8) : (bvals l).length = l.length := by simp [bvals]
def OwnB (w : World) (base : Nat) (v : Value) (l : List UInt8) : Prop := w.ownsRow base 5 1 v l.length (bvals l)

theorem OwnB.form {w : World} {base : Nat} {v : Value} {l : List UInt8} (h : OwnB w base v l) (hl : 0 < l.length) :
    ∃ g cap cur, v = .slice (some ⟨g, 0, none⟩) l.length cap ∧ base ≤ g ∧ w.heap[g]? = some (.cells cur 5 (0, 0)) ∧ ∀ j, j < l.length → cur[j]? = some (.int .u8 ((l.getD j 0).toNat : Nat)) := by
  rcases h.2 with ⟨_, h0⟩ | ⟨g, cap, cur, hv, hb, hg, _, _, _, ht⟩
  · omega
  · refine ⟨g, cap, cur, hv, hb, hg, fun j hj => ?_⟩
    have h1 : (cur.toList.take (l.length * 1))[j]? = (bvals l)[j]? := by rw [ht]
    rw [List.getElem?_take, if_pos (by omega)] at h1
    simpa [bvals, hj, List.getD_eq_getElem?_getD] using h1

theorem zeros_eq (n : Nat) : (Builtin.zeroCells #[Value.int .u8 0] n).toList = bvals (List.replicate n 0) := by
  simp only [Builtin.zeroCells, bvals, List.map_replicate, List.size_toArray, List.length_singleton, Array.toList_map, Nat.mod_one, Nat.mul_one]
  apply List.ext_getElem
  · simp
  · intro i h1 h2
    simp

/-- append([]byte{x}, make([]byte, k)...). -/
theorem run_zeros (w : World) (ty : TypeId) (x : UInt8) (k : Nat) (hk : k ≤ 64) :
    ∃ v' w', (Builtin.append_ #[31, 3] ty #[.slice (some ⟨w.heap.size, 0, none⟩) 1 1, .int .i64 (k : Int)]).run Tryz.prog (w.alloc (.cells #[.int .u8 (x.toNat : Nat)] 5)) = .ok v' w' ∧
      OwnB w' w.heap.size v' (x :: List.replicate k 0) ∧ Below w.heap.size w w' := by
  obtain ⟨i, hi, he⟩ := Option.map_eq_some_iff.1 info5
  simp only [Prod.mk.injEq] at he
  obtain ⟨hz, hs, hb⟩ := he
  have hg := heap_alloc_new w (.cells #[.int .u8 (x.toNat : Nat)] 5)
  by_cases h0 : k = 0
  · subst h0
    refine ⟨.slice (some ⟨w.heap.size, 0, none⟩) 1 1, w.alloc (.cells #[.int .u8 (x.toNat : Nat)] 5), ?_, ?_, (Below.refl _ _).alloc (Nat.le_refl _) _⟩
    · have hw0 : IntKind.i64.wrap 0 = 0 := by rfl
      simp [hw0, Builtin.append_, run_underlying Tryz.underlying31, run_underlying Tryz.underlying3, sizeOf, typeInfo, hi, asInt, asIntOf, storeCells]
    · exact ⟨by simp [bvals], .inr ⟨w.heap.size, 1, _, rfl, Nat.le_refl _, hg, Nat.le_refl _, by decide, rfl, rfl⟩⟩
  · have hold : (Builtin.firstCells i.size 1 (.slice (some ⟨w.heap.size, 0, none⟩) 1 1)).run Tryz.prog (w.alloc (.cells #[.int .u8 (x.toNat : Nat)] 5)).drew = .ok [Value.int .u8 (x.toNat : Nat)].toArray (w.alloc (.cells #[.int .u8 (x.toNat : Nat)] 5)).drew := by
      rw [hs]
      exact run_loadCells_list (P := Tryz.prog) _ ⟨w.heap.size, 0, none⟩ [Value.int .u8 (x.toNat : Nat)] (fun j v hv => by
        rw [Addr.add_lit]
        exact (cell_of_row _ _ _ _ _ _ hg).trans (by simpa using hv))
    have hr := Lib.run_append_grow_zeros (P := Tryz.prog) (w.alloc (.cells #[.int .u8 (x.toNat : Nat)] 5)) 31 3 ty 5 i _ .i64 .i64 Tryz.underlying31 Tryz.underlying3 hi hz (some ⟨w.heap.size, 0, none⟩) 1 1 [Value.int .u8 (x.toNat : Nat)] hold k (by omega) (by omega) (by omega) (by omega) (by rw [hb]; omega) (by
      rw [hb, Builtin.nextslicecap, if_pos (show (1 : Nat) < 256 by decide)]
      split
      · omega
      · omega)
    have hge := grownCap_ge (w.alloc (.cells #[.int .u8 (x.toNat : Nat)] 5)) (1 + k) 1 5
    have hle := grownCap_le_maxLen (w.alloc (.cells #[.int .u8 (x.toNat : Nat)] 5)) (1 + k) 1 5 (by simp only [maxLen]; omega)
    generalize grownCap (w.alloc (.cells #[.int .u8 (x.toNat : Nat)] 5)) (1 + k) 1 5 = cap at *
    have hsz : (Value.int .u8 0).cells.size = 1 := rfl
    refine ⟨_, _, hr, ⟨by simp [bvals], .inr ⟨(w.alloc (.cells #[.int .u8 (x.toNat : Nat)] 5)).drew.heap.size, cap, _, ?_, ?_, heap_alloc_new _ _, ?_, hle, ?_, ?_⟩⟩, ?_⟩
    · rw [List.length_cons, List.length_replicate, Nat.add_comm k 1]; rfl
    · show w.heap.size ≤ (w.alloc (.cells #[.int .u8 (x.toNat : Nat)] 5)).heap.size
      simp
    · rw [List.length_cons, List.length_replicate]; omega
    · simp only [Array.size_append, size_zeroCells, hsz, List.size_toArray, List.length_singleton]
      omega
    · simp only [Array.toList_append, List.length_cons, List.length_replicate, Nat.mul_one]
      show ([Value.int .u8 (x.toNat : Nat)] ++ (Builtin.zeroCells #[Value.int .u8 0] k).toList ++ _).take (k + 1) = _
      rw [zeros_eq]
      have : ([Value.int .u8 (x.toNat : Nat)] ++ bvals (List.replicate k 0)).length = k + 1 := by simp [bvals]
      rw [List.take_append_of_le_length (by rw [this]; exact Nat.le_refl _), List.take_of_length_le (by rw [this]; exact Nat.le_refl _)]
      rfl
    · exact (((Below.refl _ _).alloc (Nat.le_refl _) _).drew).alloc (by show w.heap.size ≤ (w.alloc (.cells #[.int .u8 (x.toNat : Nat)] 5)).heap.size; simp) _

set_option maxRecDepth 100000 in
theorem pad_neg (n : Int) (w : World) (hn : n < 0) :
    Calls Tryz.prog 125 #[.int .i64 n] w fun e w' => e = .returned (.string ⟨⟨[]⟩⟩) ∧ w = w' := by
  go_enter Tryz.func125, Tryz.ntmps125
  go_wp2
  go_ret
  exact ⟨rfl, rfl⟩

theorem cnt_snoc (n k : Nat) (hk : k < 8) : (Sh.cnt n).take (k + 1) = (Sh.cnt n).take k ++ [Sh.byt (8 * n % 18446744073709551616 / 2 ^ (8 * (7 - k)))] := by
  have hl : (Sh.cnt n).length = 8 := by simp [Sh.cnt]
  rw [List.take_succ_eq_append_getElem (by omega)]
  simp [Sh.cnt]

theorem wpList_appB (wr : World) {ops : Array Oper} {rest : List Oper} {o : Oper} {a : Act} {Q : Exit → Act → World → Prop} (hgd : o.guard = none) (s x : Operand)
    (ho : o.op = .call { callee := .builtin .append, args := #[s, x], argTypes := #[31, 31] }) (base : Nat) (v : Value) (l : List UInt8) (c : UInt8) (hs : a.eval s = v) (hx : a.eval x = .slice (some ⟨wr.heap.size, 0, none⟩) 1 1)
    (hown : OwnB wr base v l) (hl : l.length ≤ 1000000) (hbase : base ≤ wr.heap.size)
    (h : ∀ v' w', OwnB w' base v' (l ++ [c]) → Below base wr w' → wpList Tryz.prog ops Q rest (a.put o.dst v') w') :
    wpList Tryz.prog ops Q (o :: rest) a (wr.alloc (.cells #[.int .u8 (c.toNat : Nat)] 5)) := by
  obtain ⟨i, hi, he⟩ := Option.map_eq_some_iff.1 info5
  simp only [Prod.mk.injEq] at he
  obtain ⟨hz, hsz, hb⟩ := he
  have hg := heap_alloc_new wr (.cells #[.int .u8 (c.toNat : Nat)] 5)
  have hown' : (wr.alloc (.cells #[.int .u8 (c.toNat : Nat)] 5)).ownsRow base 5 1 v l.length (bvals l) := World.ownsRow.alloc hown _
  have hlt := World.ownsRow.lt hown
  refine wpList_append_own _ hgd s x 31 ho base 5 i (.int .u8 0) 1 1 Tryz.underlying31 hi hz hsz hb rfl (by decide) v l.length (bvals l) hs hown' ⟨wr.heap.size, 0, none⟩ 1 1 [.int .u8 (c.toNat : Nat)] hx rfl (fun j u hu => ?_) (fun u hu => ?_) (by simp only [maxLen]; omega) (by omega) (by simp; omega) fun v' w' h1 h2 _ => h v' w' ?_ ?_
  · rw [Addr.add_lit]
    exact (cell_of_row _ _ _ _ _ _ hg).trans (by simpa using hu)
  · simp only [List.mem_singleton] at hu
    subst hu
    rfl
  · unfold OwnB
    rw [List.length_append, List.length_singleton]
    have : bvals (l ++ [c]) = bvals l ++ [.int .u8 (c.toNat : Nat)] := by simp [bvals]
    rw [this]
    exact h1
  · exact Below.grown ((Below.refl _ _).alloc hbase _) h2 (by simp; omega) (fun k hk => (hlt k hk).1)

set_option maxRecDepth 100000 in
theorem pad_any (n : Nat) (w : World) (hn : n ≤ 9223372036854775807) :
    Calls Tryz.prog 125 #[.int .i64 n] w fun e w' => e = .returned (.string ⟨⟨Sh.pad n⟩⟩) ∧ Below w.heap.size w w' := by
  go_enter Tryz.func125, Tryz.ntmps125
  go_wp2_with fail
  refine (noughts_any n _ hn).mono ?_
  rintro _ w' ⟨rfl, rfl⟩
  have hz : Sh.noughts n ≤ 64 := by unfold Sh.noughts; omega
  obtain ⟨v, w1, hr, HO, hb⟩ := run_zeros w 31 128 (Sh.noughts n) hz
  go_wp2_with (at_builtin; refine Lib.wpList_append_run _ rfl (.tmp 8) (.tmp 10) 31 3 rfl _ _ rfl rfl v w1 hr ?_)
  have hc : IntKind.u64.wrap (8 * (n : Int)) = ((8 * n % 18446744073709551616 : Nat) : Int) := by rw [IntKind.wrap_u64]; omega
  have HP : Hid (Sh.pad n = (128 :: List.replicate (Sh.noughts n) 0) ++ (Sh.cnt n).take 8) := by rw [Hid, List.take_of_length_le (by simp [Sh.cnt])]; rfl
  have HCS := Lib.hid (cnt_snoc n)
  have hlc : ∀ k, ((128 :: List.replicate (Sh.noughts n) 0) ++ (Sh.cnt n).take k).length ≤ 100 := by
    intro k
    simp [Sh.cnt]
    omega
  have HLC := Lib.hid hlc
  clear hlc hr
  rw [hc]
  clear hc
  generalize 8 * n % 18446744073709551616 = c at *
  generalize Sh.noughts n = z at *
  generalize Sh.cnt n = L at *
  go_loopw [3, 15] (fun v i wr => ∃ k : Nat, k ≤ 8 ∧ i = .int .i64 k ∧ OwnB wr w.heap.size v ((128 :: List.replicate z 0) ++ L.take k) ∧ Below w.heap.size w wr) (fun _ i _ => 8 - (intOf i).toNat)
  case atStart => exact ⟨0, by omega, rfl, by simpa using HO, hb⟩
  case round =>
    obtain ⟨k, hk, rfl, HO1, hb1⟩ := hrel
    clear HO hb
    by_cases hlt : k < 8
    · have hv : (c : Int) / 2 ^ (8 * (7 - k)) % 256 = ((Sh.byt (c / 2 ^ (8 * (7 - k)))).toNat : Nat) := by
        rw [Sh.byt, UInt8.toNat_ofNat']
        simp
      have HS := Lib.hid (HCS.out k hlt)
      have HL1 := Lib.hid (HLC.out k)
      generalize Sh.byt (c / 2 ^ (8 * (7 - k))) = d at *
      have hz1 := hb1.size
      go_wp2_with (at_builtin; refine wpList_appB wr rfl (.tmp 18) (.tmp 25) rfl w.heap.size _ _ d rfl rfl HO1 (by have := HL1.out; omega) (by omega) ?_)
      intro v2 w2 HO2 hb2
      go_wp2
      go_roundw
      case rel => exact ⟨k + 1, by omega, by go_num, by rw [HS.out]; simpa using HO2, hb1.trans hb2⟩
      case measure => simp [intOf]; omega
    · obtain rfl : k = 8 := by omega
      have HL1 := Lib.hid (HLC.out 8)
      rw [← HP.out] at HO1 HL1
      have hpos : 0 < (Sh.pad n).length := by rw [HP.out]; simp
      generalize hpl : Sh.pad n = l at *
      have HPL := Lib.hid hpl
      clear hpl HP HCS HLC
      obtain ⟨g, cap, cur, rfl, hgb, hcur, hcs⟩ := HO1.form hpos
      have hcv := conv_any wr g cap l 5 (0, 0) cur hcur hcs
      clear hcs hcur
      go_wp2
      go_ret
      exact ⟨by rw [HPL.out]; rfl, hb1⟩
end Go.Proofs.YticofjbngfjjlaaGreatDoor

/- Rows of bytes: made, read, written; lengths; texts joined. What more than one layer leans on. -/

namespace Go.Proofs.YticofjbngfjjlaaGreatDoor
open Go.RowKit

theorem bcells_size (l : List UInt8) : (bcells l).size = l.length := by simp [bcells]
theorem bget {wr : World} {g i : Nat} {t : TypeId} {l : List UInt8} (h : wr.heap[g]? = some (.cells (bcells l) t (0, 0))) (hi : i < l.length) (x : UInt8) (hx : l.getD i 0 = x) : wr.cell? ⟨g, i, none⟩ = some (.int .u8 (x.toNat : Nat)) := by
  rw [cell_of_row _ _ _ _ _ _ h, bcells_at _ _ hi, hx]
theorem bset {wr : World} {g i : Nat} {t : TypeId} {l : List UInt8} (h : wr.heap[g]? = some (.cells (bcells l) t (0, 0))) (x : UInt8) : (wr.setCell ⟨g, i, none⟩ (.int .u8 (x.toNat : Nat))).heap[g]? = some (.cells (bcells (l.set i x)) t (0, 0)) := by
  rw [heap_setCell_same _ _ _ _ _ _ h, bcells_set]
theorem bset_other {wr : World} {g g' i : Nat} {v : Value} (h : g' ≠ g) : (wr.setCell ⟨g, i, none⟩ v).heap[g']? = wr.heap[g']? := heap_setCell_other _ _ _ _ h
def Row (w : World) (g : Nat) (l : List UInt8) : Prop := w.heap[g]? = some (.cells (bcells l) 5 (0, 0))
theorem Row.lt {w : World} {g : Nat} {l : List UInt8} (h : Row w g l) : g < w.heap.size := (Array.getElem?_eq_some_iff.1 h).1
theorem Row.get {w : World} {g : Nat} {l : List UInt8} (h : Row w g l) (i : Nat) (hi : i < l.length) (x : UInt8) (hx : l.getD i 0 = x) : w.cell? ⟨g, i, none⟩ = some (.int .u8 (x.toNat : Nat)) := bget h hi x hx
theorem Row.free {w : World} {g : Nat} {l : List UInt8} (h : Row w g l) (i : Nat) : w.frozen? ⟨g, i, none⟩ = false := frozen_of_row _ _ _ _ _ h
theorem Row.alloc {w : World} {g : Nat} {l : List UInt8} (h : Row w g l) (o : Obj) : Row (w.alloc o) g l := by
  show (w.alloc o).heap[g]? = _
  rw [heap_alloc_old _ _ h.lt]; exact h
theorem Row.new (w : World) (l : List UInt8) : Row (w.alloc (.cells (bcells l) 5)) w.heap.size l := heap_alloc_new _ _
theorem Row.put {w : World} {g : Nat} {l : List UInt8} (h : Row w g l) (i : Nat) (x : UInt8) : Row (w.setCell ⟨g, i, none⟩ (.int .u8 (x.toNat : Nat))) g (l.set i x) := bset h x
theorem Row.other {w : World} {g g' : Nat} {l : List UInt8} (h : Row w g l) (hne : g ≠ g') (i : Nat) (v : Value) : Row (w.setCell ⟨g', i, none⟩ v) g l := by
  show (w.setCell ⟨g', i, none⟩ v).heap[g]? = _
  rw [bset_other hne]; exact h
theorem len_true {l : List UInt8} {n : Nat} (h : l.length = n) : (((l.length : Int) != (n : Nat)) = false) ∧ ((l.length != n) = false) ∧ (((l.length : Int) == (n : Nat)) = true) ∧ ((l.length == n) = true) := by subst h; simp
theorem len_false {l : List UInt8} {n : Nat} (h : l.length ≠ n) : (((l.length : Int) != (n : Nat)) = true) ∧ ((l.length != n) = true) ∧ (((l.length : Int) == (n : Nat)) = false) ∧ ((l.length == n) = false) := by
  refine ⟨by simp; omega, by simpa using h, by simp; omega, by simpa using h⟩
theorem getD_get (E : List UInt8) (i : Nat) (h : i < E.length) : E.getD i 0 = E[i] := by simp [List.getD_eq_getElem?_getD, h]
theorem str_app (a b : List UInt8) : ByteArray.mk ⟨a⟩ ++ ByteArray.mk ⟨b⟩ = ⟨⟨a ++ b⟩⟩ := by
  apply ByteArray.ext
  rw [ByteArray.data_append]
  apply Array.toList_inj.1
  simp
theorem u8_of (y : Nat) : IntKind.u8.wrap (y : Int) = ((UInt8.ofNat y).toNat : Nat) := by
  rw [IntKind.wrap_u8', UInt8.toNat_ofNat']
  omega
theorem make_cap (m : Nat) (h : m ≤ 100000000) (W : World) : (Instr.makeSlice 31 (.int .i64 0) (.int .i64 (m : Int))).run Tryz.prog W = .ok (.slice (some ⟨W.heap.size, 0, none⟩) 0 m) (W.alloc (.cells (bcells (List.replicate m 0)) 5)) := by
  obtain ⟨i, hi, he⟩ := Option.map_eq_some_iff.1 info5
  simp only [Prod.mk.injEq] at he
  obtain ⟨hz, hs, hb⟩ := he
  have hr := run_make (P := Tryz.prog) W 31 5 i _ Tryz.underlying31 hi hz .i64 .i64 0 m (by omega) (by omega) (by rw [hb]; omega) (by omega)
  rw [hr, hs, Int.toNat_natCast, Nat.mul_one]
  show _ = Result.ok _ (W.alloc (.cells _ _))
  rw [← made_zero]
  rfl
/-- A row of bytes that is not nil, written out. -/
theorem own_form {w : World} {base : Nat} {v : Value} {l : List UInt8} (h : OwnB w base v l) (hv : v ≠ .slice none 0 0) :
    ∃ g cap cur, v = .slice (some ⟨g, 0, none⟩) l.length cap ∧ w.heap[g]? = some (.cells cur 5 (0, 0)) ∧ l.length ≤ cap ∧ cap ≤ maxLen ∧ ∀ j, j < l.length → cur[j]? = some (.int .u8 ((l.getD j 0).toNat : Nat)) := by
  rcases h.2 with ⟨h0, _⟩ | ⟨g, cap, cur, hv, hb, hg, h1, h2, _, ht⟩
  · exact absurd h0 hv
  · refine ⟨g, cap, cur, hv, hg, h1, h2, fun j hj => ?_⟩
    have h1 : (cur.toList.take (l.length * 1))[j]? = (bvals l)[j]? := by rw [ht]
    rw [List.getElem?_take, if_pos (by omega)] at h1
    simpa [bvals, hj, List.getD_eq_getElem?_getD] using h1
theorem make_full (m : Nat) (h : m ≤ 100000000) (W : World) : (Instr.makeSlice 31 (.int .i64 (m : Int)) (.int .i64 (m : Int))).run Tryz.prog W = .ok (.slice (some ⟨W.heap.size, 0, none⟩) m m) (W.alloc (.cells (bcells (List.replicate m 0)) 5)) := by
  obtain ⟨i, hi, he⟩ := Option.map_eq_some_iff.1 info5
  simp only [Prod.mk.injEq] at he
  obtain ⟨hz, hs, hb⟩ := he
  have hr := run_make (P := Tryz.prog) W 31 5 i _ Tryz.underlying31 hi hz .i64 .i64 m m (by omega) (by omega) (by rw [hb]; omega) (by omega)
  rw [hr, hs, Int.toNat_natCast, Nat.mul_one]
  show _ = Result.ok _ (W.alloc (.cells _ _))
  rw [← made_zero]
  rfl
theorem conv_one (W : World) (b : UInt8) : (convert 31 9 (.slice (some ⟨W.heap.size, 0, none⟩) 1 1)).run Tryz.prog (W.alloc (.cells #[.int .u8 (b.toNat : Nat)] 5)) = .ok (.string ⟨⟨[b]⟩⟩) (W.alloc (.cells #[.int .u8 (b.toNat : Nat)] 5)) :=
  conv_any _ W.heap.size 1 [b] 5 (0, 0) _ (heap_alloc_new _ _) (fun j hj => bcells_at [b] j hj)
end Go.Proofs.YticofjbngfjjlaaGreatDoor

/- head, numbers. -/

namespace Go.Proofs.YticofjbngfjjlaaGreatDoor
open Go.RowKit

set_option maxRecDepth 100000 in
theorem head_any (l : List UInt8) (w : World) (hl : l.length ≤ 100000) :
    Calls Tryz.prog 54 #[.string ⟨⟨l⟩⟩] w fun e w' => e = .returned (.string ⟨⟨De.lab l⟩⟩) ∧ w = w' := by
  have hap : ByteArray.mk ⟨l⟩ ++ ByteArray.mk #[0] = ⟨⟨De.lab l⟩⟩ := str_app l [0]
  have hw : ¬ 9223372036854775807 < l.length + 1 := by omega
  go_enter Tryz.func54, Tryz.ntmps54
  go_wp2
  go_ret
  exact ⟨rfl, rfl⟩

theorem own_cap (w : World) (m : Nat) (h : m ≤ 100000000) : OwnB (w.alloc (.cells (bcells (List.replicate m 0)) 5)) w.heap.size (.slice (some ⟨w.heap.size, 0, none⟩) 0 m) [] := by
  refine ⟨rfl, .inr ⟨w.heap.size, m, bcells (List.replicate m 0), rfl, Nat.le_refl _, heap_alloc_new _ _, Nat.zero_le _, ?_, ?_, rfl⟩⟩
  · simp only [maxLen]; omega
  · simp [bcells]

set_option maxRecDepth 100000 in
set_option maxHeartbeats 1000000 in
theorem numbers_one (n : Int) (g : Nat) (w : World) (hr : w.heap[g]? = some (.cells #[.int .i64 n] 3 (0, 0))) :
    Calls Tryz.prog 55 #[.slice (some ⟨g, 0, none⟩) 1 1] w fun e w' => e = .returned (.string ⟨⟨De.num (De.un n)⟩⟩) ∧ Below w.heap.size w w' := by
  have hg : g < w.heap.size := (Array.getElem?_eq_some_iff.1 hr).1
  have HC : Hid (w.cell? ⟨g, 0, none⟩ = some (.int .i64 n)) := cell_of_row _ _ _ _ _ _ hr
  have hmk := make_cap 8 (by omega) w
  simp only [Int.cast_ofNat_Int] at hmk
  have HO := own_cap w 8 (by omega)
  have hb0 : Below w.heap.size w (w.alloc (.cells (bcells (List.replicate 8 0)) 5)) := (Below.refl _ _).alloc (Nat.le_refl _) _
  have hu : IntKind.u64.wrap n = ((De.un n : Nat) : Int) := by rw [IntKind.wrap_u64, De.un_cast]
  have HL := Lib.hid (De.num_length (De.un n))
  have HCS := Lib.hid (De.num_snoc (De.un n))
  clear hr
  generalize bcells (List.replicate 8 0) = zs at *
  generalize De.num (De.un n) = L at *
  generalize De.un n = c at *
  go_enter Tryz.func55, Tryz.ntmps55
  go_wp2
  go_loopw [3, 13] (fun v i wr => ∃ k : Nat, k ≤ 1 ∧ i = .int .i64 k ∧ OwnB wr w.heap.size v (L.take (8 * k)) ∧ Below w.heap.size w wr) (fun _ i _ => 1 - (intOf i).toNat)
  case atStart => exact ⟨0, by omega, rfl, HO, hb0⟩
  case round =>
    obtain ⟨k, hk, rfl, HO1, hb1⟩ := hrel
    clear HO hb0
    by_cases hlt : k < 1
    · obtain rfl : k = 0 := by omega
      have hcell := (hb1.cell (p := ⟨g, 0, none⟩) hg).trans HC.out
      rw [Int.ofNat_zero]
      go_wp2
      go_loopw [3, 17] (fun v i wr2 => ∃ m : Nat, m ≤ 8 ∧ i = .int .i64 m ∧ OwnB wr2 w.heap.size v (L.take m) ∧ Below w.heap.size w wr2) (fun _ i _ => 8 - (intOf i).toNat)
      case atStart => exact ⟨0, by omega, rfl, HO1, hb1⟩
      case round =>
        obtain ⟨m, hm, rfl, HO2, hb2⟩ := hrel
        clear HO1 hb1 hcell
        by_cases hlm : m < 8
        · have hv : (c : Int) / 2 ^ (8 * (7 - m)) % 256 = ((Sh.byt (c / 2 ^ (8 * (7 - m)))).toNat : Nat) := by
            rw [Sh.byt, UInt8.toNat_ofNat']
            simp
          have HS := Lib.hid (HCS.out m hlm)
          have HL1 : Hid ((L.take m).length ≤ 8) := by rw [Hid, List.length_take, HL.out]; omega
          generalize Sh.byt (c / 2 ^ (8 * (7 - m))) = d at *
          have hz1 := hb2.size
          go_wp2_with (at_builtin; refine wpList_appB _ rfl (.tmp 20) (.tmp 28) rfl w.heap.size _ _ d rfl rfl HO2 (by have := HL1.out; omega) (by omega) ?_)
          intro v2 w2 HO3 hb3
          go_wp2
          go_roundw
          case rel => exact ⟨m + 1, by omega, by go_num, by rw [HS.out]; exact HO3, hb2.trans hb3⟩
          case measure => simp [intOf]; omega
        · obtain rfl : m = 8 := by omega
          go_wp2
          go_roundw
          case rel => exact ⟨1, by omega, by go_num, HO2, hb2⟩
          case measure => simp [intOf]
    · obtain rfl : k = 1 := by omega
      have ht : L.take (8 * 1) = L := List.take_of_length_le (by rw [HL.out]; omega)
      rw [ht] at HO1
      obtain ⟨g1, cap, cur, rfl, hgb, hcur, hcs⟩ := HO1.form (by rw [HL.out]; omega)
      have hcv := conv_any wr g1 cap L 5 (0, 0) cur hcur hcs
      clear hcs hcur ht
      go_wp2
      go_ret
      exact ⟨rfl, hb1⟩
end Go.Proofs.YticofjbngfjjlaaGreatDoor

/- Key, Cipher, Sum, Long, Session: by what Mac answers. -/

namespace Go.Proofs.YticofjbngfjjlaaGreatDoor
open Go.RowKit

/-- What Mac answers at this key and this text. -/
def MacIs (k s m : List UInt8) : Prop := ∀ w, Tabs w → Calls Tryz.prog 53 #[.string ⟨⟨k⟩⟩, .string ⟨⟨s⟩⟩] w fun e w' => e = .returned (.string ⟨⟨m⟩⟩) ∧ Below w.heap.size w w'

theorem new_int (n : Int) (w : World) : (w.alloc (.cells #[.int .i64 n] 3)).heap[w.heap.size]? = some (.cells #[.int .i64 n] 3 (0, 0)) := heap_alloc_new _ _

set_option maxRecDepth 100000 in
set_option maxHeartbeats 1000000 in
theorem dKey_by (b l m : List UInt8) (n : Int) (w : World) (HT : Tabs w) (hl : l.length ≤ 5000) (HM : Hid (MacIs b (De.txt l n) m)) :
    Calls Tryz.prog 137 #[.string ⟨⟨b⟩⟩, .int .i64 n, .string ⟨⟨l⟩⟩] w fun e w' => e = .returned (.string ⟨⟨m⟩⟩) ∧ Below w.heap.size w w' := by
  have HH := Lib.hid (head_any l w (by omega))
  have HN := Lib.hid fun g w h => numbers_one n g w h
  have hap : ByteArray.mk ⟨De.lab l⟩ ++ ByteArray.mk ⟨De.num (De.un n)⟩ = ⟨⟨De.txt l n⟩⟩ := str_app _ _
  have hw : ¬ 9223372036854775807 < (De.lab l).length + (De.num (De.un n)).length := by rw [De.lab_length, De.num_length]; omega
  generalize De.lab l = x at *
  generalize De.num (De.un n) = y at *
  generalize De.txt l n = t at *
  go_enter Tryz.func137, Tryz.ntmps137
  go_wp2_with fail
  refine HH.out.mono ?_
  rintro _ w1 ⟨rfl, rfl⟩
  go_wp2_with fail
  refine (HN.out _ _ (new_int n w)).mono ?_
  rintro _ w2 ⟨rfl, hb2⟩
  have b1 : Below w.heap.size w (w.alloc (.cells #[.int .i64 n] 3)) := (Below.refl _ _).alloc (Nat.le_refl _) _
  have b2 := b1.trans (hb2.mono b1.size)
  clear hb2 b1 HH HN
  go_wp2_with fail
  refine (HM.out _ (HT.below b2)).mono ?_
  rintro _ w3 ⟨rfl, hb3⟩
  have b3 := b2.trans (hb3.mono b2.size)
  clear hb3 b2
  go_wp2
  go_ret
  exact ⟨rfl, b3⟩

/-- What Key answers. -/
def KeyIs (b : List UInt8) (n : Int) (l m : List UInt8) : Prop := ∀ w, Tabs w → Calls Tryz.prog 137 #[.string ⟨⟨b⟩⟩, .int .i64 n, .string ⟨⟨l⟩⟩] w fun e w' => e = .returned (.string ⟨⟨m⟩⟩) ∧ Below w.heap.size w w'

set_option maxRecDepth 100000 in
theorem dCipher_by (b m : List UInt8) (n : Int) (w : World) (HT : Tabs w) (hm : m.length = 32) (HK : Hid (KeyIs b n [99, 105, 112, 104, 101, 114] m)) :
    Calls Tryz.prog 163 #[.string ⟨⟨b⟩⟩, .int .i64 n] w fun e w' => e = .returned (.string ⟨⟨m.take 16⟩⟩) ∧ Below w.heap.size w w' := by
  have hc : (ByteArray.mk ⟨m⟩).extract 0 16 = ⟨⟨m.take 16⟩⟩ := by rw [cut_str, List.drop_zero]
  have h1 : 16 ≤ (m.length : Int) := by omega
  have h2 : 16 ≤ m.length := by omega
  generalize m.take 16 = q at *
  clear hm
  go_enter Tryz.func163, Tryz.ntmps163
  go_wp2_with fail
  refine (HK.out _ HT).mono ?_
  rintro _ w1 ⟨rfl, b1⟩
  clear HK
  go_wp2
  go_ret
  exact ⟨rfl, b1⟩

set_option maxRecDepth 100000 in
theorem dSum_by (b m : List UInt8) (n : Int) (w : World) (HT : Tabs w) (HK : Hid (KeyIs b n [115, 117, 109] m)) :
    Calls Tryz.prog 164 #[.string ⟨⟨b⟩⟩, .int .i64 n] w fun e w' => e = .returned (.string ⟨⟨m⟩⟩) ∧ Below w.heap.size w w' := by
  go_enter Tryz.func164, Tryz.ntmps164
  go_wp2_with fail
  refine (HK.out _ HT).mono ?_
  rintro _ w1 ⟨rfl, b1⟩
  clear HK
  go_wp2
  go_ret
  exact ⟨rfl, b1⟩

set_option maxRecDepth 100000 in
set_option maxHeartbeats 1000000 in
theorem dLong_by (a k m : List UInt8) (n : Int) (w : World) (HT : Tabs w) (ha : a.length ≤ 5000) (HM : Hid (MacIs k (De.txt [108, 111, 110, 103] n ++ a) m)) :
    Calls Tryz.prog 23 #[.string ⟨⟨a⟩⟩, .int .i64 n, .string ⟨⟨k⟩⟩] w fun e w' => e = .returned (.string ⟨⟨m⟩⟩) ∧ Below w.heap.size w w' := by
  have HH := Lib.hid (head_any [108, 111, 110, 103] w (by decide))
  have HN := Lib.hid fun g w h => numbers_one n g w h
  have hap : ByteArray.mk ⟨De.lab [108, 111, 110, 103]⟩ ++ ByteArray.mk ⟨De.num (De.un n)⟩ = ⟨⟨De.txt [108, 111, 110, 103] n⟩⟩ := str_app _ _
  have hap2 : ByteArray.mk ⟨De.txt [108, 111, 110, 103] n⟩ ++ ByteArray.mk ⟨a⟩ = ⟨⟨De.txt [108, 111, 110, 103] n ++ a⟩⟩ := str_app _ _
  have hw : ¬ 9223372036854775807 < (De.lab [108, 111, 110, 103]).length + (De.num (De.un n)).length := by rw [De.lab_length, De.num_length]; decide
  have hw2 : ¬ 9223372036854775807 < (De.txt [108, 111, 110, 103] n).length + a.length := by rw [De.txt_length]; simp; omega
  generalize De.txt [108, 111, 110, 103] n = t at *
  generalize De.lab [108, 111, 110, 103] = x at *
  generalize De.num (De.un n) = y at *
  go_enter Tryz.func23, Tryz.ntmps23
  go_wp2_with fail
  refine HH.out.mono ?_
  rintro _ w1 ⟨rfl, rfl⟩
  go_wp2_with fail
  refine (HN.out _ _ (new_int n w)).mono ?_
  rintro _ w2 ⟨rfl, hb2⟩
  have b1 : Below w.heap.size w (w.alloc (.cells #[.int .i64 n] 3)) := (Below.refl _ _).alloc (Nat.le_refl _) _
  have b2 := b1.trans (hb2.mono b1.size)
  clear hb2 b1 HH HN
  go_wp2_with fail
  refine (HM.out _ (HT.below b2)).mono ?_
  rintro _ w3 ⟨rfl, hb3⟩
  have b3 := b2.trans (hb3.mono b2.size)
  clear hb3 b2
  go_wp2
  go_ret
  exact ⟨rfl, b3⟩

set_option maxRecDepth 100000 in
set_option maxHeartbeats 1000000 in
theorem dSession_by (k m : List UInt8) (n : Int) (w : World) (HT : Tabs w) (HM : Hid (MacIs k (De.txt [115, 101, 115, 115, 105, 111, 110] n) m)) :
    Calls Tryz.prog 24 #[.int .i64 n, .string ⟨⟨k⟩⟩] w fun e w' => e = .returned (.string ⟨⟨m⟩⟩) ∧ Below w.heap.size w w' := by
  have HH := Lib.hid (head_any [115, 101, 115, 115, 105, 111, 110] w (by decide))
  have HN := Lib.hid fun g w h => numbers_one n g w h
  have hap : ByteArray.mk ⟨De.lab [115, 101, 115, 115, 105, 111, 110]⟩ ++ ByteArray.mk ⟨De.num (De.un n)⟩ = ⟨⟨De.txt [115, 101, 115, 115, 105, 111, 110] n⟩⟩ := str_app _ _
  have hw : ¬ 9223372036854775807 < (De.lab [115, 101, 115, 115, 105, 111, 110]).length + (De.num (De.un n)).length := by rw [De.lab_length, De.num_length]; decide
  generalize De.txt [115, 101, 115, 115, 105, 111, 110] n = t at *
  generalize De.lab [115, 101, 115, 115, 105, 111, 110] = x at *
  generalize De.num (De.un n) = y at *
  go_enter Tryz.func24, Tryz.ntmps24
  go_wp2_with fail
  refine HH.out.mono ?_
  rintro _ w1 ⟨rfl, rfl⟩
  go_wp2_with fail
  refine (HN.out _ _ (new_int n w)).mono ?_
  rintro _ w2 ⟨rfl, hb2⟩
  have b1 : Below w.heap.size w (w.alloc (.cells #[.int .i64 n] 3)) := (Below.refl _ _).alloc (Nat.le_refl _) _
  have b2 := b1.trans (hb2.mono b1.size)
  clear hb2 b1 HH HN
  go_wp2_with fail
  refine (HM.out _ (HT.below b2)).mono ?_
  rintro _ w3 ⟨rfl, hb3⟩
  have b3 := b2.trans (hb3.mono b2.size)
  clear hb3 b2
  go_wp2
  go_ret
  exact ⟨rfl, b3⟩
end Go.Proofs.YticofjbngfjjlaaGreatDoor

/- hmac.Equal. -/

namespace Go.Proofs.YticofjbngfjjlaaGreatDoor
open Go.RowKit

theorem Equal_len (a b : List UInt8) (w : World) (h : a.length ≠ b.length) :
    Calls Tryz.prog 145 #[.string ⟨⟨a⟩⟩, .string ⟨⟨b⟩⟩] w fun e w' => e = .returned (.bool false) ∧ w = w' := by
  have e1 : ((a.length : Int) != (b.length : Int)) = true := by simp; omega
  have e2 : (a.length != b.length) = true := by simpa using h
  have e3 : (a.length == b.length) = false := by simpa using h
  clear h
  go_enter Tryz.func145, Tryz.ntmps145
  go_wp2
  go_ret
  exact ⟨rfl, rfl⟩

/-- What the loop has gathered: nought just where the texts are the same so far. -/
def Odd (a b : List UInt8) (k : Nat) (v : Value) : Prop := ∃ d : Nat, d < 256 ∧ v = .int .u8 (d : Nat) ∧ (d = 0 ↔ a.take k = b.take k)

theorem or_zero (x y : Nat) : x ||| y = 0 ↔ x = 0 ∧ y = 0 := Nat.or_eq_zero_iff
theorem xor_zero (x y : UInt8) : x.toNat ^^^ y.toNat = 0 ↔ x = y := by
  constructor
  · intro h
    apply UInt8.toNat_inj.1
    have := congrArg (· ^^^ y.toNat) h
    simpa [Nat.xor_assoc] using this
  · rintro rfl
    exact Nat.xor_self _

theorem odd_next (a b : List UInt8) (k d : Nat) (ha : k < a.length) (hb : k < b.length) (h : d = 0 ↔ a.take k = b.take k) :
    d ||| ((a[k]'ha).toNat ^^^ (b[k]'hb).toNat) = 0 ↔ a.take (k + 1) = b.take (k + 1) := by
  rw [or_zero, xor_zero, h, take_snoc a k ha, take_snoc b k hb]
  constructor
  · rintro ⟨h1, h2⟩
    rw [h1, h2]
  · intro hh
    have hl : (a.take k).length = (b.take k).length := by simp; omega
    obtain ⟨h1, h2⟩ := List.append_inj hh hl
    exact ⟨h1, by simpa using h2⟩

theorem belowN {B : Nat} {a w : World} (h : Below B a w) (n : Nat) : Below B a (w.drewN n) := h.trans ⟨rfl, rfl, rfl, Nat.le_refl _, fun _ _ => rfl⟩
theorem ret_bool {a b : Bool} (h : a = b) : Ending.returned (.bool a) = .returned (.bool b) := by rw [h]
theorem u8_lt_or {x y : Nat} (hx : x < 256) (hy : y < 256) : x ||| y < 256 := Nat.or_lt_two_pow (n := 8) hx hy
theorem u8_lt_xor {x y : Nat} (hx : x < 256) (hy : y < 256) : x ^^^ y < 256 := Nat.xor_lt_two_pow (n := 8) hx hy
theorem odd_val (d x y : Nat) (hd : d < 256) (hx : x < 256) (hy : y < 256) : bits BinOp.or IntKind.u8 (d : Int) (bits BinOp.xor IntKind.u8 (x : Int) (y : Int)) = ((d ||| (x ^^^ y) : Nat) : Int) := by
  rw [u8_xor_nat _ _ hx hy, u8_or_nat _ _ hd (u8_lt_xor hx hy)]

set_option maxRecDepth 100000 in
theorem Equal_same (a b : List UInt8) (w : World) (h : a.length = b.length) (hs : a.length ≤ 9223372036854775807) :
    Calls Tryz.prog 145 #[.string ⟨⟨a⟩⟩, .string ⟨⟨b⟩⟩] w fun e w' => e = .returned (.bool (decide (a = b))) ∧ Below w.heap.size w w' := by
  have H := Lib.hid h
  have hs2 : b.length ≤ 9223372036854775807 := by omega
  have e1 : ((a.length : Int) != (b.length : Int)) = false := by simp [h]
  have e2 : (a.length != b.length) = false := by simp [h]
  clear h
  go_enter Tryz.func145, Tryz.ntmps145
  go_wp2
  go_loopw [5, 14] (fun v i wr => ∃ k : Nat, k ≤ a.length ∧ i = .int .i64 (k : Nat) ∧ Odd a b k v ∧ Below w.heap.size w wr) (fun _ i _ => a.length - (intOf i).toNat)
  case atStart => exact ⟨0, by omega, rfl, ⟨0, by decide, rfl, by simp⟩, Below.refl _ _⟩
  case round =>
    obtain ⟨k, hk, rfl, ⟨d, hd, rfl, hz⟩, hb⟩ := hrel
    by_cases hlt : k < a.length
    · have hlb : k < b.length := by have := H.out; omega
      have hba := byte_at a k hlt
      have hbb := byte_at b k hlb
      have HZ := Lib.hid (odd_next a b k d hlt hlb hz)
      have hca : a[k].toNat < 256 := UInt8.toNat_lt _
      have hcb : b[k].toNat < 256 := UInt8.toNat_lt _
      have HV := Lib.hid (odd_val d a[k].toNat b[k].toNat hd hca hcb)
      clear hz
      go_wp2
      go_quiet (fail)
      go_wp2
      go_roundw
      case rel => exact ⟨k + 1, by omega, by go_num, ⟨_, u8_lt_or hd (u8_lt_xor hca hcb), congrArg (Value.int IntKind.u8) HV.out, HZ.out⟩, belowN hb _⟩
      case measure => simp [intOf]; omega
    · obtain rfl : k = a.length := by omega
      have hz2 : ((d : Int) == 0) = decide (a = b) := by
        rw [List.take_of_length_le (Nat.le_refl _), List.take_of_length_le (by have := H.out; omega)] at hz
        rw [Bool.eq_iff_iff, beq_iff_eq, decide_eq_true_iff, ← hz]
        omega
      have HZ := Lib.hid hz2
      clear hz hz2
      go_wp2
      go_ret
      exact ⟨ret_bool HZ.out, hb⟩

theorem Equal_any (a b : List UInt8) (w : World) (hs : a.length ≤ 9223372036854775807) :
    Calls Tryz.prog 145 #[.string ⟨⟨a⟩⟩, .string ⟨⟨b⟩⟩] w fun e w' => e = .returned (.bool (decide (a = b))) ∧ Below w.heap.size w w' := by
  by_cases h : a.length = b.length
  · exact Equal_same a b w h hs
  · rw [decide_eq_false (fun e => h (by rw [e]))]
    exact (Equal_len a b w h).mono fun _ _ ⟨he, hw⟩ => ⟨he, hw ▸ Below.refl _ _⟩
end Go.Proofs.YticofjbngfjjlaaGreatDoor

/- with, changed. -/

namespace Go.Proofs.YticofjbngfjjlaaGreatDoor
open Go.RowKit

theorem boxed8 (x : Nat) (w : World) : (w.alloc (.cells #[.int .u8 x] 5)).cell? ⟨w.heap.size, 0, none⟩ = some (.int .u8 x) := cell_of_row _ _ 0 _ 5 (0, 0) (heap_alloc_new w _)

set_option maxRecDepth 100000 in
theorem with_any (x : Nat) (w : World) :
    Calls Tryz.prog 95 #[.int .u8 x] w fun e w' => e = .returned (.func (.func 127) #[] #[.pointer (some ⟨w.heap.size, 0, none⟩)]) ∧ w.alloc (.cells #[.int .u8 x] 5) = w' := by
  go_enter Tryz.func95, Tryz.ntmps95
  go_wp2
  go_ret
  exact ⟨rfl, rfl⟩

theorem ret_u8 {a b : Int} (h : a = b) : Ending.returned (.int .u8 a) = .returned (.int .u8 b) := by rw [h]

set_option maxRecDepth 100000 in
theorem with1_any (b x : UInt8) (g : Nat) (w : World) (hc : w.cell? ⟨g, 0, none⟩ = some (.int .u8 (x.toNat : Nat))) :
    Calls Tryz.prog 127 #[.int .u8 (b.toNat : Nat), .pointer (some ⟨g, 0, none⟩)] w fun e w' => e = .returned (.int .u8 ((b ^^^ x).toNat : Nat)) ∧ w = w' := by
  have h1 : b.toNat < 256 := UInt8.toNat_lt _
  have h2 : x.toNat < 256 := UInt8.toNat_lt _
  have HX : Hid (bits BinOp.xor IntKind.u8 (b.toNat : Int) (x.toNat : Int) = ((b ^^^ x).toNat : Nat)) := by rw [Hid, u8_xor_nat _ _ h1 h2, UInt8.toNat_xor]
  go_enter Tryz.func127, Tryz.ntmps127
  go_wp2
  go_ret
  exact ⟨ret_u8 HX.out, rfl⟩

theorem xr_at (x : UInt8) (s : List UInt8) (k : Nat) (h : k < s.length) : (Hm.xr x s).getD k 0 = s[k] ^^^ x := by
  simp [Hm.xr, List.getD_eq_getElem?_getD, h]

set_option maxRecDepth 100000 in
theorem changed_any (s : List UInt8) (x : UInt8) (g : Nat) (w : World) (hs : s.length ≤ 1000000) (hc : w.cell? ⟨g, 0, none⟩ = some (.int .u8 (x.toNat : Nat))) :
    Calls Tryz.prog 94 #[.string ⟨⟨s⟩⟩, .func (.func 127) #[] #[.pointer (some ⟨g, 0, none⟩)]] w fun e w' => e = .returned (.string ⟨⟨Hm.xr x s⟩⟩) ∧ Below w.heap.size w w' := by
  have hmk := make_any s.length hs
  have HLX := Lib.hid (Hm.xr_length x s)
  have HAT := Lib.hid (xr_at x s)
  have hg : g < w.heap.size := block_lt_of_cell hc
  have HC := Lib.hid hc
  clear hc
  generalize Hm.xr x s = L at *
  go_enter Tryz.func94, Tryz.ntmps94
  go_wp2
  go_loopw [12] (fun i wr => ∃ k : Nat, k ≤ s.length ∧ i = .int .i64 (k : Nat) ∧ Below w.heap.size w wr ∧ Hid (wr.heap[w.heap.size]? = some (.cells (bcells (L.take k ++ List.replicate (s.length - k) 0)) 5 (0, 0)))) (fun i _ => s.length - (intOf i).toNat)
  case atStart => exact ⟨0, by omega, rfl, (Below.refl _ _).alloc (Nat.le_refl _) _, heap_alloc_new _ _⟩
  case round =>
    obtain ⟨k, hk, rfl, hb, HC1⟩ := hrel
    by_cases hlt : k < s.length
    · have hcell := brow_cell HC1.out HLX.out hlt
      have hfro := frozen_of_row _ _ k _ _ HC1.out
      have hby := byte_at s k hlt
      have hcg : wr.cell? ⟨g, 0, none⟩ = some (.int .u8 (x.toNat : Nat)) := (hb.cell (p := ⟨g, 0, none⟩) hg).trans HC.out
      have HV := Lib.hid (HAT.out k hlt)
      clear hmk
      go_wp2_with fail
      refine (with1_any s[k] x g wr hcg).mono ?_
      rintro _ w' ⟨rfl, rfl⟩
      rw [← HV.out]
      go_wp2
      go_roundw
      case rel => exact ⟨k + 1, by omega, by go_num, hb.setCell (Nat.le_refl _) _, brow_set HC1.out HLX.out hlt⟩
      case measure => simp [intOf]; omega
    · obtain rfl : k = s.length := by omega
      have hcr : wr.heap[w.heap.size]? = some (.cells (bcells L) 5 (0, 0)) := by
        have h := HC1.out
        rw [List.take_of_length_le (by rw [HLX.out]; omega), Nat.sub_self, List.replicate_zero, List.append_nil] at h
        exact h
      have hcv := conv_any wr w.heap.size s.length L 5 (0, 0) _ hcr (fun j hj => bcells_at L j hj)
      rw [HLX.out] at hcv
      clear hmk hcr
      go_wp2
      go_ret
      exact ⟨rfl, hb⟩
end Go.Proofs.YticofjbngfjjlaaGreatDoor

