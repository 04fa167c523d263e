/- The document's Size, Large; the law's digits. -/
import Derived.Test.YtiidooponlbnmaaDoorTmW4
namespace Go.Proofs.YtiidooponlbnmaaDoor.Te
open Go.RowKit
open Tt

def RSizeSaid (x : Tm) : Prop := ∀ (S : Nat → Prop) (v : Value) (w : World), sz x ≤ 4000000 → Rep w S x v → (∀ b, S b → b < w.heap.size) →
  Calls Tryd.prog 45 #[v] w fun e w' => e = .returned (.int .i64 (sz x : Nat)) ∧ Below w.heap.size w w'

set_option maxHeartbeats 1000000 in
set_option maxRecDepth 100000 in
theorem refSize_any : ∀ x, RSizeSaid x := Tm.ind (by
  intro k s m q ih S v w hsz hr hS
  obtain ⟨A, ca, rfl, -, hrow⟩ := rep_mk.1 hr
  rw [sz] at hsz ⊢
  have hql := szs_len q
  obtain ⟨z, hz⟩ : ∃ z, z = w.heap.size := ⟨_, rfl⟩
  obtain ⟨n, hn⟩ : ∃ n, n = q.length := ⟨_, rfl⟩
  have hg0 := heap_alloc_new w (.cells #[.int .i64 k, .string ⟨⟨s⟩⟩, .int .i64 m, .slice A n ca] 33)
  have hb0 : Below w.heap.size w (w.alloc (.cells #[.int .i64 k, .string ⟨⟨s⟩⟩, .int .i64 m, .slice A n ca] 33)) := (Below.refl _ _).alloc (Nat.le_refl _) _
  rw [← hz] at hg0
  have HG0 := Lib.hid hg0
  have HB0 := Lib.hid hb0
  have HR := Lib.hid hrow
  have HS := Lib.hid hS
  have HI := Lib.hid ih
  have HZ := Lib.hid hz
  have HN := Lib.hid hn
  rw [← hn] at hql ⊢
  clear hr hrow hS ih hg0 hb0 hz hn
  go_enter Tryd.func45, Tryd.ntmps45
  go_wp2
  rw [← HZ.out]
  go_loopw [3, 4] (fun nv iv wr => ∃ i : Nat, i ≤ n ∧ iv = .int .i64 (i : Nat) ∧ nv = .int .i64 ((1 + szs (q.take i) : Nat) : Int) ∧ Hid (Below w.heap.size w wr) ∧ Hid (wr.heap[z]? = some (.cells #[.int .i64 k, .string ⟨⟨s⟩⟩, .int .i64 m, .slice A n ca] 33 (0, 0)))) (fun _ iv _ => n - (intOf iv).toNat)
  case atStart => exact ⟨0, by omega, rfl, by simp [szs], HB0, HG0⟩
  case round =>
    obtain ⟨i, hi, rfl, rfl, HB, HG⟩ := hrel
    obtain ⟨c0, c1, c2, c3⟩ := cell4 HG.out
    by_cases hlt : i < n
    · have hlt1 : i < q.length := by rw [← HN.out]; exact hlt
      have hil : (i : Int) < (n : Int) := by omega
      obtain ⟨b, o, k1, s1, m1, q1, B1, cb1, rfl, hSb, hx, d0, d1, d2, d3, hrep⟩ := trow_get HR.out HB.out HS.out hlt1
      have hts := szs_take_succ q i hlt1
      have htl := szs_take_le q (i + 1)
      have hmem : q[i] ∈ q := List.getElem_mem hlt1
      have hc := HI.out _ hmem
      rw [hx] at hts hc
      have hcall := hc S _ wr (by omega) hrep (fun b hb => Nat.lt_of_lt_of_le (HS.out b hb) HB.out.size)
      have HC := Lib.hid hcall
      obtain ⟨t, ht⟩ : ∃ t, t = sz (.mk k1 s1 m1 q1) := ⟨_, rfl⟩
      rw [← ht] at HC hts
      obtain ⟨u, hu⟩ : ∃ u, u = 1 + szs (q.take i) := ⟨_, rfl⟩
      rw [← hu]
      have HT : Hid (1 + szs (q.take (i + 1)) = u + t) := by show _ = _; omega
      have hsum : u + t ≤ 4000001 := by omega
      have hzl := (Array.getElem?_eq_some_iff.1 HG.out).1
      clear hcall hc hx hrep hmem hts htl hu ht
      go_wp2_with fail
      refine HC.out.mono ?_
      rintro _ w1 ⟨rfl, b1⟩
      have HB1 : Hid (Below w.heap.size w w1) := HB.out.trans (b1.mono HB.out.size)
      have HG1 := Lib.hid ((b1.block z hzl).trans HG.out)
      clear b1 HC HB HG c0 c1 c2 c3 d0 d1 d2 d3
      go_wp2
      go_roundw
      case rel => exact ⟨i + 1, by omega, by go_num, by rw [HT.out]; go_num, HB1, HG1⟩
      case measure => simp [intOf]; omega
    · have hie : q.take i = q := List.take_of_length_le (by rw [← HN.out]; omega)
      rw [hie]
      have hil : ¬ (i : Int) < (n : Int) := by omega
      go_wp2
      go_ret
      exact ⟨rfl, HB.out⟩)

set_option maxHeartbeats 400000 in
set_option maxRecDepth 100000 in
theorem Large_any (x : Tm) (most : Nat) (S : Nat → Prop) (v : Value) (w : World) (hsz : sz x ≤ 4000000) (hr : Rep w S x v) (hS : ∀ b, S b → b < w.heap.size) :
    Calls Tryd.prog 22 #[v, .int .i64 (most : Nat)] w fun e w' => e = .returned (.bool (decide (most < sz x))) ∧ Below w.heap.size w w' := by
  have hc := refSize_any x S v
  obtain ⟨t, ht⟩ : ∃ t, t = sz x := ⟨_, rfl⟩
  rw [← ht] at hc hsz ⊢
  clear ht
  obtain ⟨k, s, n, q⟩ := x
  have hr0 := hr
  obtain ⟨A, ca, rfl, -, -⟩ := rep_mk.1 hr
  have hb1 : Below w.heap.size w (w.alloc (.cells #[.int .i64 k, .string ⟨⟨s⟩⟩, .int .i64 n, .slice A q.length ca] 33)) := (Below.refl _ _).alloc (Nat.le_refl _) _
  have HC := Lib.hid (hc _ hsz (rep_below hr0 hb1 hS) (fun b hb => Nat.lt_of_lt_of_le (hS b hb) hb1.size))
  have HB1 := Lib.hid hb1
  clear hc hr hr0 hS hb1
  go_enter Tryd.func22, Tryd.ntmps22
  go_wp2_with fail
  refine HC.out.mono ?_
  rintro _ w1 ⟨rfl, b1⟩
  have HB2 : Hid (Below w.heap.size w w1) := HB1.out.trans (b1.mono HB1.out.size)
  clear b1 HC
  go_wp2
  go_ret
  refine ⟨?_, HB2.out⟩
  have : decide ((most : Int) < (t : Int)) = decide (most < t) := by simp
  simp
end Go.Proofs.YtiidooponlbnmaaDoor.Te
