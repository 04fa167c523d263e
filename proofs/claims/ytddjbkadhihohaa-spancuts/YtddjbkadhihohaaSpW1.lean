/- span: times, pair. -/
import Derived.Test.YtddjbkadhihohaaRows
import Derived.Test.YtddjbkadhihohaaSpPure
import Derived.WalkKit
import Derived.Below
import Derived.BigQuiet
import Derived.Deep.QuietTactic
import Derived.Lib.Hide
import Derived.IntWalk
import Derived.WalkLawsBesides
namespace Go.Proofs.Ytddjbkadhihohaa
open Go.RowKit
namespace Sp

/-- May a number be a time? -/
def ok (n : Int) : Bool := decide (0 ≤ n ∧ n ≤ 1099511627776)

set_option maxRecDepth 100000 in
theorem times1_any (n : Int) (w : World) :
    Calls Try.prog 20 #[.int .i64 n] w fun e w' => e = .returned (.bool (!ok n)) ∧ w = w' := by
  by_cases h0 : n < 0
  · have e1 : decide (n < 0) = true := by simpa using h0
    have e2 : ok n = false := by simp [ok]; omega
    rw [e2]
    clear e2
    go_enter Try.func20, Try.ntmps20
    go_wp2
    go_ret
    exact ⟨rfl, rfl⟩
  · have e1 : decide (n < 0) = false := by simpa using h0
    have e2 : (!ok n) = decide (n > 1099511627776) := by
      by_cases h : n > 1099511627776
      · simp [ok, h]
      · simp [ok, h]; omega
    rw [e2]
    clear e2
    go_enter Try.func20, Try.ntmps20
    go_wp2
    go_ret
    exact ⟨rfl, rfl⟩

/-- A row of numbers in memory. -/
def Row (w : World) (g : Nat) (l : List Int) : Prop := ∃ t, w.heap[g]? = some (.cells (l.map fun n => Value.int .i64 n).toArray t (0, 0))
theorem Row.lt {w : World} {g : Nat} {l : List Int} (h : Row w g l) : g < w.heap.size := (Array.getElem?_eq_some_iff.1 h.choose_spec).1
theorem Row.below {w w' : World} {g : Nat} {l : List Int} {B : Nat} (h : Row w g l) (hb : Below B w w') (hg : g < B) : Row w' g l := by
  obtain ⟨t, ht⟩ := h
  exact ⟨t, (hb.block g hg).trans ht⟩
theorem Row.cell {w : World} {g : Nat} {l : List Int} (h : Row w g l) (i : Nat) (hi : i < l.length) : w.cell? ⟨g, i, none⟩ = some (.int .i64 l[i]) := by
  obtain ⟨t, ht⟩ := h
  rw [cell_of_row _ _ _ _ _ _ ht]
  simp [hi]

set_option maxHeartbeats 1000000 in
set_option maxRecDepth 100000 in
theorem index_any (l : List Int) (g : Nat) (w : World) (hr : Row w g l) (hn : l.length ≤ 1000) :
    Calls Try.prog 22 #[.slice (some ⟨g, 0, none⟩) l.length l.length, .func (.func 20) #[] #[]] w fun e w' => ∃ r : Int, e = .returned (.int .i64 r) ∧
      ((r = -1 ∧ l.all ok = true) ∨ (0 ≤ r ∧ l.all ok = false)) ∧ Below w.heap.size w w' := by
  have hg := hr.lt
  have HR := Lib.hid hr
  clear hr
  go_enter Try.func22, Try.ntmps22
  go_wp2
  go_loopw [8] (fun iv wr => ∃ i : Nat, i ≤ l.length ∧ iv = .int .i64 (i : Nat) ∧ Hid ((l.take i).all ok = true) ∧ Hid (Below w.heap.size w wr)) (fun iv _ => l.length - (intOf iv).toNat)
  case atStart => exact ⟨0, by omega, rfl, Lib.hid (by simp), Below.refl _ _⟩
  case round =>
    obtain ⟨i, hi, rfl, HA, HB⟩ := hrel
    by_cases hlt : i < l.length
    · have hil : (i : Int) < (l.length : Int) := by omega
      have hc := (HR.out.below HB.out hg).cell i hlt
      have hN := times1_any l[i] wr
      have hmem : l[i] ∈ l := List.getElem_mem hlt
      have hta := List.take_succ_eq_append_getElem hlt
      have hwz := HB.out.size
      by_cases hk : ok l[i] = true
      · have HT : Hid ((l.take (i + 1)).all ok = true) := by
          rw [Hid, hta, List.all_append, HA.out]; simp [hk]
        rw [hk] at hN
        generalize l[i] = x at *
        have HN := Lib.hid hN
        clear HA hmem hta hN
        go_wp2_with fail
        refine HN.out.mono ?_
        rintro _ _ ⟨rfl, rfl⟩
        go_wp2
        go_roundw
        case rel => exact ⟨i + 1, by omega, by go_num, HT, HB⟩
        case measure => simp [intOf]; omega
      · have hk2 : ok l[i] = false := by simpa using hk
        have HF : Hid (l.all ok = false) := by
          rw [Hid, List.all_eq_false]
          exact ⟨_, hmem, by simp [hk2]⟩
        rw [hk2] at hN
        generalize l[i] = x at *
        have HN := Lib.hid hN
        clear HA hmem hta hN hk hk2
        go_wp2_with fail
        refine HN.out.mono ?_
        rintro _ _ ⟨rfl, rfl⟩
        go_wp2
        go_ret
        exact ⟨i, rfl, .inr ⟨by omega, HF.out⟩, HB.out⟩
    · have hie : l.take i = l := List.take_of_length_le (by omega)
      have hA := HA.out
      rw [hie] at hA
      have HA2 := Lib.hid hA
      clear hA HA hie
      go_wp2
      go_ret
      exact ⟨-1, rfl, .inl ⟨rfl, HA2.out⟩, HB.out⟩

set_option maxHeartbeats 400000 in
set_option maxRecDepth 100000 in
theorem some_any (l : List Int) (g : Nat) (w : World) (hr : Row w g l) (hn : l.length ≤ 1000) :
    Calls Try.prog 21 #[.slice (some ⟨g, 0, none⟩) l.length l.length, .func (.func 20) #[] #[]] w fun e w' => e = .returned (.bool (!l.all ok)) ∧ Below w.heap.size w w' := by
  obtain ⟨a, ha⟩ : ∃ a, a = l.all ok := ⟨_, rfl⟩
  have h := index_any l g w hr hn
  rw [← ha] at h ⊢
  have H := Lib.hid h
  clear hr hn ha h
  go_enter Try.func21, Try.ntmps21
  go_wp2_with fail
  refine H.out.mono ?_
  rintro _ w1 ⟨r, rfl, hr, hb⟩
  have HR := Lib.hid hr
  clear hr H
  go_wp2
  go_ret
  refine ⟨?_, hb⟩
  rcases HR.out with ⟨rfl, rfl⟩ | ⟨h, rfl⟩
  · rfl
  · simpa using h

set_option maxRecDepth 100000 in
theorem times_any (l : List Int) (g : Nat) (w : World) (hr : Row w g l) (hn : l.length ≤ 1000) :
    Calls Try.prog 17 #[.slice (some ⟨g, 0, none⟩) l.length l.length] w fun e w' => e = .returned (.bool (l.all ok)) ∧ Below w.heap.size w w' := by
  obtain ⟨b, hb⟩ : ∃ b, b = l.all ok := ⟨_, rfl⟩
  have h := some_any l g w hr hn
  rw [← hb] at h ⊢
  have H := Lib.hid h
  clear hr hn hb h
  go_enter Try.func17, Try.ntmps17
  go_wp2_with fail
  refine H.out.mono ?_
  rintro _ w1 ⟨rfl, hb⟩
  have HB := Lib.hid hb
  clear hb H
  go_wp2
  go_ret
  exact ⟨by simp, HB.out⟩

/-- The word of a whole number. -/
def fl (n : Int) : Nat := hf (2 * n)
/-- Two times as one number. -/
def cx (a b : Int) : Value := .complex .f64 (fl a) (fl b)

set_option maxRecDepth 100000 in
theorem pair_any (a b : Int) (w : World) (ha : a.natAbs < 2 ^ 50) (hb : b.natAbs < 2 ^ 50) :
    Calls Try.prog 16 #[.int .i64 a, .int .i64 b] w fun e w' => e = .returned (cx a b) ∧ w = w' := by
  have ea := of_int a (by omega)
  have eb := of_int b (by omega)
  unfold cx fl
  rw [← ea, ← eb]
  clear ea eb ha hb
  go_enter Try.func16, Try.ntmps16
  go_wp2
  go_ret
  exact ⟨rfl, rfl⟩
end Sp
end Go.Proofs.Ytddjbkadhihohaa
