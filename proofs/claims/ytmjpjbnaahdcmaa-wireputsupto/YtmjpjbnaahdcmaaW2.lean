import Derived.Test.YtmjpjbnaahdcmaaRows
import Derived.Test.YtmjpjbnaahdcmaaPure
import Derived.WalkKit
import Derived.Below
import Derived.BigQuiet
import Derived.Deep.QuietTactic
import Derived.Lib.Hide
import Derived.Lib.Strings
import Derived.Lib.Walk
import Derived.Lib.BufferWrite
import Derived.Lib.UnsafeStr
import Derived.Laws.MakeOwn
import Derived.Laws.BytesString
import Derived.Maps.AppendAt
import Derived.Deep.DeepFit
namespace Go.Proofs.Ytmjpjbnaahdcmaa
open Go.RowKit
open Wr

theorem info5 : (Try.prog.info? 5).map (fun i => (i.zero, i.size, i.bytes)) = some (some (.int .u8 0), 1, 1) := by kernel_rfl
theorem cells5 : Try.prog.cellsOf 5 = 1 := by kernel_rfl

set_option maxHeartbeats 1000000 in
set_option maxRecDepth 100000 in
theorem clone_any (s : List UInt8) (w : World) (hs : s.length ≤ 100000) :
    Calls Try.prog 37 #[.string ⟨⟨s⟩⟩] w fun e w' => e = .returned (.string ⟨⟨s⟩⟩) ∧ Below w.heap.size w w' := by
  rcases s with _ | ⟨c, r⟩
  · go_enter Try.func37, Try.ntmps37
    go_wp2
    go_ret
    exact ⟨rfl, Below.refl _ _⟩
  · obtain ⟨s, hse⟩ : ∃ s, s = c :: r := ⟨_, rfl⟩
    rw [← hse] at hs ⊢
    have hpos : 0 < s.length := by rw [hse]; simp
    have hne : s ≠ [] := by rw [hse]; simp
    clear hse
    obtain ⟨i0, hi, hz0, hz1, hz2⟩ := info_parts info5
    have hin : (Try.prog.info? 5).map (·.size) = some 1 := by rw [hi]; simp [hz1]
    obtain ⟨M, hM⟩ : ∃ M, M = madeCells (Value.int .u8 0).cells (((s.length : Nat) : Int).toNat * i0.size) := ⟨_, rfl⟩
    have hMs : M.size = s.length := by rw [hM, size_madeCells, hz1]; simp
    have hmk : ∀ W : World, (Instr.makeSlice 39 (.int .i64 (s.length : Int)) (.int .i64 (s.length : Int))).run Try.prog W = .ok (.slice (some ⟨W.heap.size, 0, none⟩) s.length s.length) (W.alloc (.cells M 5)) := fun W => by
      have h := run_make (P := Try.prog) W 39 5 i0 (.int .u8 0) Try.underlying39 hi hz0 .i64 .i64 (s.length : Int) (s.length : Int) (by omega) (by omega) (by rw [hz2]; omega) (by omega)
      rw [← hM] at h
      simpa using h
    have HM := Lib.hid hM
    clear hM
    have hcp := Lib.run_copy_row_string (P := Try.prog) (w.alloc (.cells M 5)) 39 9 3 5 w.heap.size 0 s.length s.length ⟨⟨s⟩⟩ M 5 Try.underlying39 hin (heap_alloc_new w _) (Nat.le_refl _) (by show 0 + s.length ≤ _; omega)
    simp only [show (ByteArray.mk ⟨s⟩).size = s.length from rfl] at hcp
    obtain ⟨Y, hY⟩ : ∃ Y, Y = (M.toList.take 0 ++ Lib.byteCells s ++ M.toList.drop (0 + s.length)).toArray := ⟨_, rfl⟩
    rw [← hY] at hcp
    have hYl : Y.toList = Lib.byteCells s := by
      rw [hY, List.toList_toArray, List.take_zero, List.nil_append, List.drop_of_length_le (by rw [Array.length_toList]; omega), List.append_nil]
    have hYs : Y.size = s.length := by rw [← Array.length_toList, hYl, Lib.byteCells_length]
    have hgY : ((w.alloc (.cells M 5)).setRow w.heap.size Y).heap[w.heap.size]? = some (.cells Y 5 (0, 0)) := setRow_heap _ _ M _ 5 (0, 0) (heap_alloc_new w _)
    have hUS := Lib.run_unsafeString_row (P := Try.prog) ((w.alloc (.cells M 5)).setRow w.heap.size Y) 61 3 9 5 Try.underlying61 cells5 w.heap.size Y.size (by unfold World.shape?; rw [hgY]) s hne (by omega) (by omega)
      (fun j x hx => Lib.cells_of_row hgY Y.size j _ (by rw [List.take_of_length_le (by rw [Array.length_toList]; exact Nat.le_refl _), hYl]; simp [Lib.byteCells, hx]))
    clear hY hYl hYs hgY
    go_enter Try.func37, Try.ntmps37
    go_wp2
    go_ret
    have hb1 : Below w.heap.size w (w.alloc (.cells M 5)) := (Below.refl _ w).alloc (Nat.le_refl _) _
    have hb2 : Below w.heap.size (w.alloc (.cells M 5)) ((w.alloc (.cells M 5)).setRow w.heap.size Y) := ⟨rfl, rfl, rfl, by simp, fun k hk => setRow_other _ _ _ _ (by omega)⟩
    exact ⟨rfl, Lib.below_freeze (hb1.trans hb2) (p := ⟨w.heap.size, 0, none⟩) (Nat.le_refl _) _⟩

set_option maxHeartbeats 400000 in
set_option maxRecDepth 100000 in
theorem sclone_any (s : List UInt8) (w : World) (hs : s.length ≤ 100000) :
    Calls Try.prog 33 #[.string ⟨⟨s⟩⟩] w fun e w' => e = .returned (.string ⟨⟨s⟩⟩) ∧ Below w.heap.size w w' := by
  go_enter Try.func33, Try.ntmps33
  go_wp2_with (go_at_call 37; refine (clone_any _ _ hs).mono ?_; rintro e w' ⟨rfl, hb⟩)
  go_ret
  exact ⟨rfl, hb⟩

set_option maxHeartbeats 400000 in
set_option maxRecDepth 100000 in
theorem within_any (a d n : Int) (w : World) (ha : 0 ≤ a) (ha' : a ≤ 200000) (hd : 0 ≤ d) (hd' : d ≤ 200000) (hn : 0 ≤ n) (hn' : n ≤ 200000) :
    Calls Try.prog 35 #[.agg #[.int .i64 a, .int .i64 d], .int .i64 n] w fun e w' => e = .returned (.agg #[.int .i64 (a + n), .int .i64 (d + 1)]) ∧ Below w.heap.size w w' := by
  go_enter Try.func35, Try.ntmps35
  go_wp2
  exact bodyPost_ret (v := .agg #[.int .i64 (a + n), .int .i64 (d + 1)]) (by simp [results, Try.results35, go_sem]) rfl ⟨rfl, ((Below.refl _ _).alloc (Nat.le_refl _) _).alloc (by simp) _⟩

set_option maxHeartbeats 400000 in
set_option maxRecDepth 100000 in
theorem tagByte_any (n : Bool) (t : Int) (s : ByteArray) (L : Value) (w : World) (ht : 1 ≤ t) (ht' : t < 128) :
    Calls Try.prog 26 #[.agg #[.bool n, .int .i64 t, .string s, L]] w fun e w' => e = .returned (.int .u8 (tb n t).toNat) ∧ Below w.heap.size w w' := by
  have h1 : ((tb true t).toNat : Int) = t + 128 := by simp [tb]; omega
  have h2 : ((tb false t).toNat : Int) = t := by simp [tb]; omega
  cases n
  · have H := Lib.hid h2
    clear h1 h2
    go_enter Try.func26, Try.ntmps26
    go_wp2
    go_ret
    exact ⟨by rw [H.out]; go_num, (Below.refl _ _).alloc (Nat.le_refl _) _⟩
  · have H := Lib.hid h1
    clear h1 h2
    go_enter Try.func26, Try.ntmps26
    go_wp2
    go_ret
    exact ⟨by rw [H.out]; go_num, (Below.refl _ _).alloc (Nat.le_refl _) _⟩
end Go.Proofs.Ytmjpjbnaahdcmaa
