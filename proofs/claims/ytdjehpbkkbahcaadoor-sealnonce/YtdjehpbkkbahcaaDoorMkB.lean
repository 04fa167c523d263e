/- Rows of bytes: made, read, written; lengths; texts joined. What more than one layer leans on. -/
import Derived.Test.YtdjehpbkkbahcaaDoorShaW8
namespace Go.Proofs.YtdjehpbkkbahcaaDoor
open Go.RowKit

theorem bcells_size (l : List UInt8) : (bcells l).size = l.length := by simp [bcells]
theorem bget {wr : World} {g i : Nat} {t : TypeId} {l : List UInt8} (h : wr.heap[g]? = some (.cells (bcells l) t (0, 0))) (hi : i < l.length) (x : UInt8) (hx : l.getD i 0 = x) : wr.cell? ⟨g, i, none⟩ = some (.int .u8 (x.toNat : Nat)) := by
  rw [cell_of_row _ _ _ _ _ _ h, bcells_at _ _ hi, hx]
theorem bset {wr : World} {g i : Nat} {t : TypeId} {l : List UInt8} (h : wr.heap[g]? = some (.cells (bcells l) t (0, 0))) (x : UInt8) : (wr.setCell ⟨g, i, none⟩ (.int .u8 (x.toNat : Nat))).heap[g]? = some (.cells (bcells (l.set i x)) t (0, 0)) := by
  rw [heap_setCell_same _ _ _ _ _ _ h, bcells_set]
theorem bset_other {wr : World} {g g' i : Nat} {v : Value} (h : g' ≠ g) : (wr.setCell ⟨g, i, none⟩ v).heap[g']? = wr.heap[g']? := heap_setCell_other _ _ _ _ h
def Row (w : World) (g : Nat) (l : List UInt8) : Prop := w.heap[g]? = some (.cells (bcells l) 5 (0, 0))
theorem Row.lt {w : World} {g : Nat} {l : List UInt8} (h : Row w g l) : g < w.heap.size := (Array.getElem?_eq_some_iff.1 h).1
theorem Row.get {w : World} {g : Nat} {l : List UInt8} (h : Row w g l) (i : Nat) (hi : i < l.length) (x : UInt8) (hx : l.getD i 0 = x) : w.cell? ⟨g, i, none⟩ = some (.int .u8 (x.toNat : Nat)) := bget h hi x hx
theorem Row.free {w : World} {g : Nat} {l : List UInt8} (h : Row w g l) (i : Nat) : w.frozen? ⟨g, i, none⟩ = false := frozen_of_row _ _ _ _ _ h
theorem Row.alloc {w : World} {g : Nat} {l : List UInt8} (h : Row w g l) (o : Obj) : Row (w.alloc o) g l := by
  show (w.alloc o).heap[g]? = _
  rw [heap_alloc_old _ _ h.lt]; exact h
theorem Row.new (w : World) (l : List UInt8) : Row (w.alloc (.cells (bcells l) 5)) w.heap.size l := heap_alloc_new _ _
theorem Row.put {w : World} {g : Nat} {l : List UInt8} (h : Row w g l) (i : Nat) (x : UInt8) : Row (w.setCell ⟨g, i, none⟩ (.int .u8 (x.toNat : Nat))) g (l.set i x) := bset h x
theorem Row.other {w : World} {g g' : Nat} {l : List UInt8} (h : Row w g l) (hne : g ≠ g') (i : Nat) (v : Value) : Row (w.setCell ⟨g', i, none⟩ v) g l := by
  show (w.setCell ⟨g', i, none⟩ v).heap[g]? = _
  rw [bset_other hne]; exact h
theorem len_true {l : List UInt8} {n : Nat} (h : l.length = n) : (((l.length : Int) != (n : Nat)) = false) ∧ ((l.length != n) = false) ∧ (((l.length : Int) == (n : Nat)) = true) ∧ ((l.length == n) = true) := by subst h; simp
theorem len_false {l : List UInt8} {n : Nat} (h : l.length ≠ n) : (((l.length : Int) != (n : Nat)) = true) ∧ ((l.length != n) = true) ∧ (((l.length : Int) == (n : Nat)) = false) ∧ ((l.length == n) = false) := by
  refine ⟨by simp; omega, by simpa using h, by simp; omega, by simpa using h⟩
theorem getD_get (E : List UInt8) (i : Nat) (h : i < E.length) : E.getD i 0 = E[i] := by simp [List.getD_eq_getElem?_getD, h]
theorem str_app (a b : List UInt8) : ByteArray.mk ⟨a⟩ ++ ByteArray.mk ⟨b⟩ = ⟨⟨a ++ b⟩⟩ := by
  apply ByteArray.ext
  rw [ByteArray.data_append]
  apply Array.toList_inj.1
  simp
theorem u8_of (y : Nat) : IntKind.u8.wrap (y : Int) = ((UInt8.ofNat y).toNat : Nat) := by
  rw [IntKind.wrap_u8', UInt8.toNat_ofNat']
  omega
theorem make_cap (m : Nat) (h : m ≤ 100000000) (W : World) : (Instr.makeSlice 26 (.int .i64 0) (.int .i64 (m : Int))).run Tryd.prog W = .ok (.slice (some ⟨W.heap.size, 0, none⟩) 0 m) (W.alloc (.cells (bcells (List.replicate m 0)) 5)) := by
  obtain ⟨i, hi, he⟩ := Option.map_eq_some_iff.1 info5
  simp only [Prod.mk.injEq] at he
  obtain ⟨hz, hs, hb⟩ := he
  have hr := run_make (P := Tryd.prog) W 26 5 i _ Tryd.underlying26 hi hz .i64 .i64 0 m (by omega) (by omega) (by rw [hb]; omega) (by omega)
  rw [hr, hs, Int.toNat_natCast, Nat.mul_one]
  show _ = Result.ok _ (W.alloc (.cells _ _))
  rw [← made_zero]
  rfl
/-- A row of bytes that is not nil, written out. -/
theorem own_form {w : World} {base : Nat} {v : Value} {l : List UInt8} (h : OwnB w base v l) (hv : v ≠ .slice none 0 0) :
    ∃ g cap cur, v = .slice (some ⟨g, 0, none⟩) l.length cap ∧ w.heap[g]? = some (.cells cur 5 (0, 0)) ∧ l.length ≤ cap ∧ cap ≤ maxLen ∧ ∀ j, j < l.length → cur[j]? = some (.int .u8 ((l.getD j 0).toNat : Nat)) := by
  rcases h.2 with ⟨h0, _⟩ | ⟨g, cap, cur, hv, hb, hg, h1, h2, _, ht⟩
  · exact absurd h0 hv
  · refine ⟨g, cap, cur, hv, hg, h1, h2, fun j hj => ?_⟩
    have h1 : (cur.toList.take (l.length * 1))[j]? = (bvals l)[j]? := by rw [ht]
    rw [List.getElem?_take, if_pos (by omega)] at h1
    simpa [bvals, hj, List.getD_eq_getElem?_getD] using h1
theorem make_full (m : Nat) (h : m ≤ 100000000) (W : World) : (Instr.makeSlice 26 (.int .i64 (m : Int)) (.int .i64 (m : Int))).run Tryd.prog W = .ok (.slice (some ⟨W.heap.size, 0, none⟩) m m) (W.alloc (.cells (bcells (List.replicate m 0)) 5)) := by
  obtain ⟨i, hi, he⟩ := Option.map_eq_some_iff.1 info5
  simp only [Prod.mk.injEq] at he
  obtain ⟨hz, hs, hb⟩ := he
  have hr := run_make (P := Tryd.prog) W 26 5 i _ Tryd.underlying26 hi hz .i64 .i64 m m (by omega) (by omega) (by rw [hb]; omega) (by omega)
  rw [hr, hs, Int.toNat_natCast, Nat.mul_one]
  show _ = Result.ok _ (W.alloc (.cells _ _))
  rw [← made_zero]
  rfl
theorem conv_one (W : World) (b : UInt8) : (convert 26 9 (.slice (some ⟨W.heap.size, 0, none⟩) 1 1)).run Tryd.prog (W.alloc (.cells #[.int .u8 (b.toNat : Nat)] 5)) = .ok (.string ⟨⟨[b]⟩⟩) (W.alloc (.cells #[.int .u8 (b.toNat : Nat)] 5)) :=
  conv_any _ W.heap.size 1 [b] 5 (0, 0) _ (heap_alloc_new _ _) (fun j hj => bcells_at [b] j hj)
end Go.Proofs.YtdjehpbkkbahcaaDoor
