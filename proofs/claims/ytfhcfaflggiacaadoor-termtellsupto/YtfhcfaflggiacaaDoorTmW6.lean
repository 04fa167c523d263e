/- Names. -/
import Derived.Test.YtfhcfaflggiacaaDoorTmW5
namespace Go.Proofs.YtfhcfaflggiacaaDoor
open Go.RowKit
open Tt

set_option maxHeartbeats 400000 in
set_option maxRecDepth 100000 in
theorem Names1_any (x : Tm) (S : Nat → Prop) (v : Value) (w : World) (hr : Rep w S x v) :
    Calls Tryd.prog 45 #[v] w fun e w' => e = .returned (.bool (decide (x.k ≠ 0))) ∧ Below w.heap.size w w' := by
  obtain ⟨k, s, n, l⟩ := x
  obtain ⟨A, ca, rfl, -, -⟩ := rep_mk.1 hr
  clear hr
  go_enter Tryd.func45, Tryd.ntmps45
  go_wp2
  go_ret
  refine ⟨?_, (Below.refl _ _).alloc (Nat.le_refl _) _⟩
  by_cases h : k = 0 <;> simp [Tm.k, h]

set_option maxHeartbeats 1000000 in
set_option maxRecDepth 100000 in
theorem namesIndex_any (q : List Tm) (A : Option Addr) (ca : Nat) (S : Nat → Prop) (w : World) (hr : TRow w S q A) (hS : ∀ b, S b → b < w.heap.size) (hn : q.length ≤ 1000000) :
    Calls Tryd.prog 58 #[.slice A q.length ca, .func (.func 45) #[] #[]] w fun e w' => ∃ r : Int, e = .returned (.int .i64 r) ∧
      ((r = -1 ∧ q.all (fun p => decide (p.k = 0)) = true) ∨ (0 ≤ r ∧ q.all (fun p => decide (p.k = 0)) = false)) ∧ Below w.heap.size w w' := by
  have HR := Lib.hid hr
  have HS := Lib.hid hS
  clear hr hS
  go_enter Tryd.func58, Tryd.ntmps58
  go_wp2
  go_loopw [8] (fun iv wr => ∃ i : Nat, i ≤ q.length ∧ iv = .int .i64 (i : Nat) ∧ Hid ((q.take i).all (fun p => decide (p.k = 0)) = true) ∧ Hid (Below w.heap.size w wr)) (fun iv _ => q.length - (intOf iv).toNat)
  case atStart => exact ⟨0, by omega, rfl, Lib.hid (by simp), Below.refl _ _⟩
  case round =>
    obtain ⟨i, hi, rfl, HA, HB⟩ := hrel
    by_cases hlt : i < q.length
    · obtain ⟨b, o, k, s, m, p, C, cb, rfl, hSb, hx, c0, c1, c2, c3, hrep⟩ := trow_get HR.out HB.out HS.out hlt
      have hil : (i : Int) < (q.length : Int) := by omega
      have hN := Names1_any _ S _ wr hrep
      have hmem : q[i] ∈ q := List.getElem_mem hlt
      have hta := List.take_succ_eq_append_getElem hlt
      rw [hx] at hmem hta
      have hwz := HB.out.size
      by_cases hk : k = 0
      · have HT : Hid ((q.take (i + 1)).all (fun p => decide (p.k = 0)) = true) := by
          rw [Hid, hta, List.all_append, HA.out]; simp [Tm.k, hk]
        rw [show decide ((Tm.mk k s m p).k ≠ 0) = false by simp [Tm.k, hk]] at hN
        subst hk
        have HN := Lib.hid hN
        clear hx hrep HA hmem hta hN
        go_wp2_with fail
        refine HN.out.mono ?_
        rintro _ w1 ⟨rfl, hb1⟩
        have HB1 : Hid (Below w.heap.size w w1) := HB.out.trans (hb1.mono hwz)
        clear hb1 HN HB
        go_wp2
        go_roundw
        case rel => exact ⟨i + 1, by omega, by go_num, HT, HB1⟩
        case measure => simp [intOf]; omega
      · have HF : Hid (q.all (fun p => decide (p.k = 0)) = false) := by
          rw [Hid, List.all_eq_false]
          exact ⟨_, hmem, by simp [Tm.k, hk]⟩
        rw [show decide ((Tm.mk k s m p).k ≠ 0) = true by simp [Tm.k, hk]] at hN
        have HN := Lib.hid hN
        clear hx hrep HA hmem hta hN
        go_wp2_with fail
        refine HN.out.mono ?_
        rintro _ w1 ⟨rfl, hb1⟩
        have HB1 : Hid (Below w.heap.size w w1) := HB.out.trans (hb1.mono hwz)
        clear hb1 HN HB
        go_wp2
        go_ret
        exact ⟨i, rfl, .inr ⟨by omega, HF.out⟩, HB1.out⟩
    · have hie : q.take i = q := List.take_of_length_le (by omega)
      have hA := HA.out
      rw [hie] at hA
      have HA2 := Lib.hid hA
      clear hA HA hie
      go_wp2
      go_ret
      exact ⟨-1, rfl, .inl ⟨rfl, HA2.out⟩, HB.out⟩

set_option maxHeartbeats 400000 in
set_option maxRecDepth 100000 in
theorem namesSome_any (q : List Tm) (A : Option Addr) (ca : Nat) (S : Nat → Prop) (w : World) (hr : TRow w S q A) (hS : ∀ b, S b → b < w.heap.size) (hn : q.length ≤ 1000000) :
    Calls Tryd.prog 46 #[.slice A q.length ca, .func (.func 45) #[] #[]] w fun e w' => e = .returned (.bool (!q.all (fun p => decide (p.k = 0)))) ∧ Below w.heap.size w w' := by
  obtain ⟨a, ha⟩ : ∃ a, a = q.all (fun p => decide (p.k = 0)) := ⟨_, rfl⟩
  have h := namesIndex_any q A ca S w hr hS hn
  rw [← ha] at h ⊢
  have H := Lib.hid h
  clear hr hS hn ha h
  go_enter Tryd.func46, Tryd.ntmps46
  go_wp2_with fail
  refine H.out.mono ?_
  rintro _ w1 ⟨r, rfl, hr, hb⟩
  have HR := Lib.hid hr
  clear hr H
  go_wp2
  go_ret
  refine ⟨?_, hb⟩
  rcases HR.out with ⟨rfl, rfl⟩ | ⟨h, rfl⟩
  · rfl
  · simpa using h

theorem infoS : (Tryd.prog.info? 9).map (fun i => (i.zero, i.size, i.bytes)) = some (some (.string ⟨#[]⟩), 1, 16) := by kernel_rfl
theorem makeS_any (n : Nat) (h : n ≤ 1000000) (W : World) : ∃ cur : Array Value, cur.size = n ∧ (Instr.makeSlice 30 (.int .i64 (n : Int)) (.int .i64 (n : Int))).run Tryd.prog W = .ok (.slice (some ⟨W.heap.size, 0, none⟩) n n) (W.alloc (.cells cur 9)) := by
  obtain ⟨i, hi, he⟩ := Option.map_eq_some_iff.1 infoS
  simp only [Prod.mk.injEq] at he
  obtain ⟨hz, hs, hb⟩ := he
  have hr := run_make (P := Tryd.prog) W 30 9 i _ Tryd.underlying30 hi hz .i64 .i64 n n (by omega) (by omega) (by rw [hb]; omega) (by omega)
  rw [hr, hs, Int.toNat_natCast, Nat.mul_one]
  exact ⟨_, size_madeCells _ _, rfl⟩

set_option maxHeartbeats 1000000 in
set_option maxRecDepth 100000 in
theorem NamesN_any (k : Int) (s : List UInt8) (n : Int) (l : List Tm) (A : Option Addr) (ca : Nat) (S : Nat → Prop) (w : World) (hr : TRow w S l A) (hS : ∀ b, S b → b < w.heap.size) (hn : l.length ≤ 1000000)
    (hno : ¬ (k = 3 ∧ l.all (fun p => decide (p.k = 0)) = true)) :
    Calls Tryd.prog 15 #[.agg #[.int .i64 k, .string ⟨⟨s⟩⟩, .int .i64 n, .slice A l.length ca]] w fun e w' => e = .returned (.tuple #[.slice none 0 0, .bool false]) ∧ Below w.heap.size w w' := by
  have hb0 : Below w.heap.size w (w.alloc (.cells #[.int .i64 k, .string ⟨⟨s⟩⟩, .int .i64 n, .slice A l.length ca] 25)) := (Below.refl _ _).alloc (Nat.le_refl _) _
  have HB0 := Lib.hid hb0
  by_cases hk : k = 3
  · subst hk
    have hN := namesSome_any l A ca S _ (trow_below hr hb0 hS) (fun b hb => Nat.lt_of_lt_of_le (hS b hb) hb0.size) hn
    rw [show l.all (fun p => decide (p.k = 0)) = false by simpa using hno] at hN
    have HN := Lib.hid hN
    clear hN hr hS hn hno hb0
    go_enter Tryd.func15, Tryd.ntmps15
    go_wp2_with fail
    refine HN.out.mono ?_
    rintro _ w1 ⟨rfl, hb1⟩
    have HB1 : Hid (Below w.heap.size w w1) := HB0.out.trans (hb1.mono HB0.out.size)
    clear hb1 HN HB0
    go_wp2
    go_ret2
    exact ⟨rfl, HB1.out⟩
  · clear hr hS hn hno hb0
    go_enter Tryd.func15, Tryd.ntmps15
    go_wp2
    go_ret2
    exact ⟨rfl, HB0.out⟩

/-- A row of texts that was made just now, without room. -/
def NewStrs (n : Nat) (w' : World) (l : List (List UInt8)) (v : Value) : Prop :=
  ∃ g, v = .slice (some ⟨g, 0, none⟩) l.length l.length ∧ n ≤ g ∧ w'.heap[g]? = some (.cells (l.map fun s => Value.string ⟨⟨s⟩⟩).toArray 9 (0, 0))

set_option maxHeartbeats 1000000 in
set_option maxRecDepth 100000 in
theorem NamesY_any (s : List UInt8) (n : Int) (l : List Tm) (A : Option Addr) (ca : Nat) (S : Nat → Prop) (w : World) (hr : TRow w S l A) (hS : ∀ b, S b → b < w.heap.size) (hn : l.length ≤ 1000000)
    (hyes : l.all (fun p => decide (p.k = 0)) = true) :
    Calls Tryd.prog 15 #[.agg #[.int .i64 3, .string ⟨⟨s⟩⟩, .int .i64 n, .slice A l.length ca]] w fun e w' => ∃ u, e = .returned (.tuple #[u, .bool true]) ∧ NewStrs w.heap.size w' (l.map Tm.s) u ∧ Below w.heap.size w w' := by
  have hb0 : Below w.heap.size w (w.alloc (.cells #[.int .i64 3, .string ⟨⟨s⟩⟩, .int .i64 n, .slice A l.length ca] 25)) := (Below.refl _ _).alloc (Nat.le_refl _) _
  have hg0 := heap_alloc_new w (.cells #[.int .i64 3, .string ⟨⟨s⟩⟩, .int .i64 n, .slice A l.length ca] 25)
  have HB0 := Lib.hid hb0
  have HG0 := Lib.hid hg0
  have hN := namesSome_any l A ca S _ (trow_below hr hb0 hS) (fun b hb => Nat.lt_of_lt_of_le (hS b hb) hb0.size) hn
  rw [hyes] at hN
  have HN := Lib.hid hN
  have HR := Lib.hid hr
  have HS := Lib.hid hS
  obtain ⟨z, hz⟩ : ∃ z, z = w.heap.size := ⟨_, rfl⟩
  obtain ⟨c, hc⟩ : ∃ c, c = l.length := ⟨_, rfl⟩
  have HZ := Lib.hid hz
  have HCL := Lib.hid hc
  have hcn : c ≤ 1000000 := by omega
  rw [← hc] at HN HB0 HG0 ⊢
  clear hN hr hS hn hyes hb0 hg0 hz hc
  go_enter Tryd.func15, Tryd.ntmps15
  go_wp2_with fail
  refine HN.out.mono ?_
  rintro _ w1 ⟨rfl, hb1⟩
  have hs0 : w.heap.size < (w.alloc (.cells #[.int .i64 3, .string ⟨⟨s⟩⟩, .int .i64 n, .slice A c ca] 25)).heap.size := by simp
  have HB1 : Hid (Below z w w1) := by rw [HZ.out]; exact HB0.out.trans (hb1.mono HB0.out.size)
  have hg1 := (hb1.block w.heap.size hs0).trans HG0.out
  rw [← HZ.out] at hg1
  have hz1 : z < w1.heap.size := (Array.getElem?_eq_some_iff.1 hg1).1
  have HG1 := Lib.hid hg1
  obtain ⟨c0, c1, c2, c3⟩ := cell4 hg1
  obtain ⟨cur, hcs, hmk⟩ := makeS_any c (by omega) w1
  obtain ⟨h, hh⟩ : ∃ h, h = w1.heap.size := ⟨_, rfl⟩
  have HH := Lib.hid hh
  have hc3 : (w1.alloc (.cells cur 9)).cell? ⟨z, 3, none⟩ = some (.slice A c ca) := by
    rw [World.cell?_of_block (a := ⟨z, 3, none⟩) (heap_alloc_old w1 _ hz1)]; exact c3
  have HB2 : Hid (Below z w (w1.alloc (.cells cur 9))) := HB1.out.alloc (by omega) _
  have HG2 : Hid ((w1.alloc (.cells cur 9)).heap[h]? = some (.cells cur 9 (0, 0))) := by rw [Hid, hh]; exact heap_alloc_new w1 _
  have HCS := Lib.hid hcs
  have hzh : z < h := by omega
  rw [← hh] at hmk
  rw [← HZ.out]
  generalize w1.alloc (.cells cur 9) = W2 at *
  clear hb1 hs0 hg1 HB0 HG0 HN hcs hh hz1
  go_wp2
  go_loopw [24] (fun iv wr => ∃ i : Nat, i ≤ c ∧ iv = .int .i64 (i : Nat) ∧ Hid (Below z w wr) ∧ Hid (∃ cu : Array Value, wr.heap[h]? = some (.cells cu 9 (0, 0)) ∧ cu.size = c ∧ cu.toList.take i = ((l.take i).map Tm.s).map fun s => Value.string ⟨⟨s⟩⟩)) (fun iv _ => c - (intOf iv).toNat)
  case atStart => exact ⟨0, by omega, rfl, HB2, Lib.hid ⟨cur, HG2.out, HCS.out, by simp⟩⟩
  case round =>
    obtain ⟨i, hi, rfl, HB, HC⟩ := hrel
    by_cases hlt : i < c
    · have hil : (i : Int) < (c : Int) := by omega
      have hll : i < l.length := by rw [← HCL.out]; exact hlt
      obtain ⟨b, o, k1, s1, m1, q1, B1, cb1, rfl, hSb, hx, d0, d1, d2, d3, -⟩ := trow_get HR.out (by rw [← HZ.out]; exact HB.out) HS.out hll
      obtain ⟨cu, hcu, hcz, hct⟩ := HC.out
      have hT : (l.take (i + 1)).map Tm.s = (l.take i).map Tm.s ++ [s1] := by rw [List.take_succ_eq_append_getElem hll, List.map_append, hx]; rfl
      have HT := Lib.hid hT
      have HCT := Lib.hid hct
      have HCZ := Lib.hid hcz
      obtain ⟨v, hv⟩ := row_some hcu (k := i) (by omega)
      have hhl := (Array.getElem?_eq_some_iff.1 hcu).1
      have hf := frozen_of_row _ _ i _ _ hcu
      have HCU := Lib.hid hcu
      clear hcu hcz hct hT hx HC hSb
      go_wp2
      have e1 := setCell_eq_setRow wr h i _ 9 (0, 0) (.string ⟨⟨s1⟩⟩) HCU.out
      have hcz := HCZ.out
      have hl2 : h < (wr.setCell ⟨h, i, none⟩ (.string ⟨⟨s1⟩⟩)).heap.size := by simp; omega
      go_roundw
      case rel =>
        refine ⟨i + 1, by omega, by go_num, ?_, Lib.hid ⟨cu.setIfInBounds i (.string ⟨⟨s1⟩⟩), ?_, by simpa using hcz, ?_⟩⟩
        · exact (HB.out.setCell (p := ⟨h, i, none⟩) (by show z ≤ h; omega) _).alloc (by simp; omega) _
        · rw [heap_alloc_old _ _ hl2, e1]; exact setRow_heap _ _ _ _ _ _ HCU.out
        · rw [HT.out, List.map_append, ← HCT.out, Array.toList_setIfInBounds, List.take_succ_eq_append_getElem (by simp; omega), List.take_set_of_le (Nat.le_refl _)]
          simp
      case measure => simp [intOf]; omega
    · have hie : l.take i = l := List.take_of_length_le (by rw [← HCL.out]; omega)
      obtain ⟨cu, hcu, hcz, hct⟩ := HC.out
      obtain rfl : i = c := by omega
      rw [hie, List.take_of_length_le (by simp; omega)] at hct
      have HNS : Hid (NewStrs w.heap.size wr (l.map Tm.s) (.slice (some ⟨h, 0, none⟩) i i)) := by
        have hz := HZ.out
        refine ⟨h, by rw [List.length_map, ← HCL.out], by omega, ?_⟩
        rw [hcu, ← hct]
      clear hcu hcz hct hie HC HR
      go_wp2
      go_ret2
      exact ⟨_, rfl, HNS.out, by rw [← HZ.out]; exact HB.out⟩
end Go.Proofs.YtfhcfaflggiacaaDoor
