/- The document's answer: times. -/
import Derived.Test.YtihgglplbanegaaDoorShaV2
namespace Go.Proofs.YtihgglplbanegaaDoor
open Go.RowKit

theorem tin_length (b : List Nat) (i x : Nat) (out : List Nat) (k : Nat) : (Sh.tin b i x out k).1.length = out.length := by
  induction k with
  | zero => rfl
  | succ k ih => rw [Sh.tin]; simp [ih]
theorem tou_length (a b : List Nat) (i : Nat) : (Sh.tou a b i).length = a.length + b.length := by
  induction i with
  | zero => simp [Sh.tou]
  | succ i ih => rw [Sh.tou]; simp [tin_length, ih]
theorem getD_16 {l : List Nat} (h : ∀ x ∈ l, x < 65536) (i : Nat) : l.getD i 0 < 65536 := by
  rw [List.getD_eq_getElem?_getD]
  cases hq : l[i]? with
  | none => decide
  | some x => exact h x (List.mem_of_getElem? hq)
theorem mem_set {l : List Nat} {i v : Nat} (h : ∀ x ∈ l, x < 65536) (hv : v < 65536) : ∀ x ∈ l.set i v, x < 65536 := by
  intro x hx
  rcases List.mem_or_eq_of_mem_set hx with h1 | h1
  · exact h x h1
  · omega
theorem sum_16 {o x y c : Nat} (ho : o < 65536) (hx : x < 65536) (hy : y < 65536) (hc : c < 65536) : o + x * y + c < 4294967296 := by
  have h : x * y ≤ 65535 * 65535 := Nat.mul_le_mul (by omega) (by omega)
  omega
theorem tin_16 (b : List Nat) (i x : Nat) (out : List Nat) (hb : ∀ x ∈ b, x < 65536) (hx : x < 65536) (ho : ∀ x ∈ out, x < 65536) (k : Nat) :
    (∀ y ∈ (Sh.tin b i x out k).1, y < 65536) ∧ (Sh.tin b i x out k).2 < 65536 := by
  induction k with
  | zero => exact ⟨ho, by show 0 < 65536; decide⟩
  | succ k ih =>
    have h := sum_16 (getD_16 ih.1 (i + k)) hx (getD_16 hb k) ih.2
    rw [Sh.tin]
    exact ⟨mem_set ih.1 (by omega), by show _ / 65536 < 65536; omega⟩
theorem tou_16 (a b : List Nat) (ha : ∀ x ∈ a, x < 65536) (hb : ∀ x ∈ b, x < 65536) (i : Nat) : ∀ y ∈ Sh.tou a b i, y < 65536 := by
  induction i with
  | zero => intro y hy; rw [Sh.tou] at hy; have := List.eq_of_mem_replicate hy; omega
  | succ i ih =>
    have h := tin_16 b i (a.getD i 0) (Sh.tou a b i) hb (getD_16 ha i) ih b.length
    rw [Sh.tou]
    exact mem_set h.1 h.2

def icells (l : List Nat) : Array Value := (ivals l).toArray
theorem icells_at (l : List Nat) (i : Nat) (h : i < l.length) : (icells l)[i]? = some (.int .i64 (l.getD i 0 : Nat)) := by
  simp [icells, ivals, List.getD_eq_getElem?_getD, h]
theorem icells_set (l : List Nat) (i x : Nat) : (icells l).setIfInBounds i (.int .i64 (x : Nat)) = icells (l.set i x) := by
  apply Array.toList_inj.1
  simp [icells, ivals, List.map_set]
theorem imade_zero (n : Nat) : madeCells #[Value.int .i64 0] n = icells (List.replicate n 0) := by
  apply Array.toList_inj.1
  simp only [madeCells, icells, ivals, List.map_replicate, List.size_toArray, List.length_singleton, Array.toList_map, Nat.mod_one]
  apply List.ext_getElem
  · simp
  · intro i h1 h2
    simp
theorem imake_any (n : Nat) (ni : Int) (hni : ni = n) (h : n ≤ 1000000) (W : World) : (Instr.makeSlice 23 (.int .i64 ni) (.int .i64 ni)).run Tryd.prog W = .ok (.slice (some ⟨W.heap.size, 0, none⟩) n n) (W.alloc (.cells (icells (List.replicate n 0)) 3)) := by
  subst hni
  obtain ⟨i, hi, he⟩ := Option.map_eq_some_iff.1 info3
  simp only [Prod.mk.injEq] at he
  obtain ⟨hz, hs, hb⟩ := he
  have hr := run_make (P := Tryd.prog) W 23 3 i _ Tryd.underlying23 hi hz .i64 .i64 n n (by omega) (by omega) (by rw [hb]; omega) (by omega)
  rw [hr, hs, Int.toNat_natCast, Nat.mul_one]
  show _ = Result.ok _ (W.alloc (.cells _ _))
  rw [← imade_zero]
  rfl
theorem irow_set {wr : World} {g k : Nat} {L : List Nat} (x : Nat) (h : wr.heap[g]? = some (.cells (icells L) 3 (0, 0))) :
    (wr.setCell ⟨g, k, none⟩ (.int .i64 (x : Nat))).heap[g]? = some (.cells (icells (L.set k x)) 3 (0, 0)) := by
  rw [heap_setCell_same _ _ _ _ _ _ h, icells_set]
theorem irow_cell {wr : World} {g k : Nat} {L : List Nat} (h : wr.heap[g]? = some (.cells (icells L) 3 (0, 0))) (hk : k < L.length) :
    wr.cell? ⟨g, k, none⟩ = some (.int .i64 (L.getD k 0 : Nat)) := by
  rw [cell_of_row _ _ _ _ _ _ h, icells_at _ _ hk]

set_option maxRecDepth 100000 in
set_option maxHeartbeats 2000000 in
theorem times_any (va vb : Value) (a b : List Nat) (w : World) (HA : Ints w va a) (HB : Ints w vb b) (hla : a.length ≤ 100) (hlb : b.length ≤ 100) (H16 : Hid (∀ x ∈ a, x < 65536)) (H16b : Hid (∀ x ∈ b, x < 65536)) :
    Calls Tryd.prog 42 #[va, vb] w fun e w' => ∃ v, e = .returned v ∧ Ints w' v (Sh.tm a b) ∧ Below w.heap.size w w' := by
  obtain ⟨g, cap, rfl, hg, hc⟩ := HA
  obtain ⟨g2, cap2, rfl, hg2, hc2⟩ := HB
  have HC := Lib.hid hc
  have HC2 := Lib.hid hc2
  clear hc hc2
  have hmk := imake_any (a.length + b.length) ((a.length : Int) + (b.length : Int)) (by omega) (by omega)
  go_enter Tryd.func42, Tryd.ntmps42
  go_wp2
  clear hmk
  go_loopw [6, 7, 8, 9] (fun i _ _ _ wr => ∃ k : Nat, k ≤ a.length ∧ i = .int .i64 (k : Nat) ∧ Below w.heap.size w wr ∧ w.heap.size < wr.heap.size ∧ Hid (wr.heap[w.heap.size]? = some (.cells (icells (Sh.tou a b k)) 3 (0, 0)))) (fun i _ _ _ _ => a.length - (intOf i).toNat)
  case atStart => exact ⟨0, by omega, rfl, (Below.refl _ _).alloc (Nat.le_refl _) _, by simp, heap_alloc_new _ _⟩
  case round =>
    obtain ⟨i, hi, rfl, hb, hz, HO⟩ := hrel
    by_cases hlt : i < a.length
    · have ha := (hb.cell (p := ⟨g, i, none⟩) hg).trans (HC.out i hlt)
      have HSU : Hid (Sh.tou a b (i + 1) = (Sh.tin b i (a.getD i 0) (Sh.tou a b i) b.length).1.set (i + b.length) (Sh.tin b i (a.getD i 0) (Sh.tou a b i) b.length).2) := by rw [Hid, Sh.tou]
      have hx := getD_16 H16.out i
      have HTL := Lib.hid (tou_length a b i)
      have HT16 := Lib.hid (tou_16 a b H16.out H16b.out i)
      generalize hxx : a.getD i 0 = x at *
      generalize Sh.tou a b i = out at *
      go_wp2_with fail
      go_loopw [7, 8, 9] (fun c kk _ wr => ∃ k : Nat, k ≤ b.length ∧ kk = .int .i64 (k : Nat) ∧ c = .int .i64 ((Sh.tin b i x out k).2 : Nat) ∧ Below w.heap.size w wr ∧ w.heap.size < wr.heap.size ∧ Hid (wr.heap[w.heap.size]? = some (.cells (icells (Sh.tin b i x out k).1) 3 (0, 0)))) (fun _ kk _ _ => b.length - (intOf kk).toNat)
      case atStart => exact ⟨0, by omega, rfl, rfl, hb, hz, HO⟩
      case round =>
        obtain ⟨k, hk, rfl, rfl, hb, hz, HO⟩ := hrel
        have T16 := tin_16 b i x out H16b.out hx HT16.out k
        have HTK := Lib.hid ((tin_length b i x out k).trans HTL.out)
        by_cases hkl : k < b.length
        · have hy := (hb.cell (p := ⟨g2, k, none⟩) hg2).trans (HC2.out k hkl)
          have ha := (hb.cell (p := ⟨g, i, none⟩) hg).trans (HC.out i hlt)
          have HSS : Hid (Sh.tin b i x out (k + 1) = ((Sh.tin b i x out k).1.set (i + k) (((Sh.tin b i x out k).1.getD (i + k) 0 + x * b.getD k 0 + (Sh.tin b i x out k).2) % 65536), ((Sh.tin b i x out k).1.getD (i + k) 0 + x * b.getD k 0 + (Sh.tin b i x out k).2) / 65536)) := by rw [Hid, Sh.tin]
          have hy16 := getD_16 H16b.out k
          have hcell := irow_cell HO.out (k := i + k) (by rw [HTK.out]; omega)
          have hfro := frozen_of_row _ _ (i + k) _ _ HO.out
          have ho16 := getD_16 T16.1 (i + k)
          have hc16 := T16.2
          generalize hT : Sh.tin b i x out k = T at *
          clear hT
          obtain ⟨T1, T2⟩ := T
          simp only at HSS HO hcell ho16 hc16 HTK
          generalize hyy : b.getD k 0 = y at *
          generalize T1.getD (i + k) 0 = o at *
          rw [hxx] at ha
          have hsum := sum_16 ho16 hx hy16 hc16
          generalize hxy : x * y = xy at *
          have e1 : IntKind.i64.wrap ((x : Int) * (y : Int)) = (xy : Int) := by
            rw [← hxy, ← Int.natCast_mul]
            exact IntWalk.i64_in _ (by rw [hxy]; omega)
          have e2 : IntKind.i64.wrap ((o : Int) + (xy : Int)) = (o : Int) + (xy : Int) := IntWalk.i64_in _ (by omega)
          have e3 : IntKind.i64.wrap ((o : Int) + (xy : Int) + (T2 : Int)) = ((o + xy + T2 : Nat) : Int) := by rw [IntWalk.i64_in _ (by omega)]; omega
          have e0 : IntKind.i64.wrap ((i : Int) + (k : Int)) = (i : Int) + (k : Int) := IntWalk.i64_in _ (by omega)
          have t0 : ((i : Int) + (k : Int)).toNat = i + k := by omega
          have z0 : (0 : Int) ≤ (i : Int) + (k : Int) := by omega
          have z1 : (i : Int) + (k : Int) < (a.length : Int) + (b.length : Int) := by omega
          have z2 : i + k < a.length + b.length := by omega
          have z3 : (i : Int) < (a.length : Int) := by omega
          have z4 : (k : Int) < (b.length : Int) := by omega
          generalize o + xy + T2 = n at *
          clear hxy hyy
          go_wp2_with fail
          go_quiet (fail)
          have HO2 : Hid ((wr.drewN nq).heap[w.heap.size]? = some (.cells (icells T1) 3 (0, 0))) := HO
          have hcell2 : (wr.drewN nq).cell? ⟨w.heap.size, i + k, none⟩ = some (.int .i64 (o : Nat)) := hcell
          have hfro2 : (wr.drewN nq).frozen? ⟨w.heap.size, i + k, none⟩ = false := hfro
          have hb2 : Below w.heap.size w (wr.drewN nq) := ⟨hb.os, hb.tape, hb.output, hb.size, hb.block⟩
          have hz2 : w.heap.size < (wr.drewN nq).heap.size := hz
          generalize wr.drewN nq = w2 at *
          clear hcell hfro HO hb hz e0 e1 e2 e3 t0 ha hy
          have HS1 : Hid ((w2.setCell ⟨w.heap.size, i + k, none⟩ (.int .i64 ((n : Int) % 65536))).heap[w.heap.size]? = some (.cells (icells (T1.set (i + k) (n % 65536))) 3 (0, 0))) := irow_set (n % 65536) HO2.out
          go_wp2
          go_roundw
          case rel => exact ⟨k + 1, by omega, by go_num, by rw [HSS.out]; rfl, hb2.setCell (Nat.le_refl _) _, by simp [World.setCell]; omega, by rw [HSS.out]; exact HS1⟩
          case measure => simp [intOf]; omega
        · obtain rfl : k = b.length := by omega
          have hcell := irow_cell HO.out (k := i + b.length) (by rw [HTK.out]; omega)
          have hfro := frozen_of_row _ _ (i + b.length) _ _ HO.out
          generalize Sh.tin b i x out b.length = T at *
          obtain ⟨T1, T2⟩ := T
          simp only at HSU HO hcell
          have z2 : i + b.length < a.length + b.length := by omega
          have z1 : (i : Int) + (b.length : Int) < (a.length : Int) + (b.length : Int) := by omega
          go_wp2
          go_roundw
          case rel => exact ⟨i + 1, by omega, by go_num, hb.setCell (Nat.le_refl _) _, by simp [World.setCell]; omega, by rw [HSU.out]; exact irow_set T2 HO.out⟩
          case measure => simp [intOf]; omega
    · obtain rfl : i = a.length := by omega
      have HTL := Lib.hid (tou_length a b a.length)
      have HFI : Ints wr (.slice (some ⟨w.heap.size, 0, none⟩) (a.length + b.length) (a.length + b.length)) (Sh.tm a b) :=
        ⟨w.heap.size, a.length + b.length, by rw [Sh.tm, HTL.out], hz, fun j hj => irow_cell HO.out hj⟩
      go_wp2
      go_ret
      exact ⟨_, rfl, HFI, hb⟩
end Go.Proofs.YtihgglplbanegaaDoor
