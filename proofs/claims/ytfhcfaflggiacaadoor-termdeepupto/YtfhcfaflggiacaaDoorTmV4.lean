/- The law's depth. -/
import Derived.Test.YtfhcfaflggiacaaDoorTmW4
import Derived.Test.YtfhcfaflggiacaaDoorTmQ3
namespace Go.Proofs.YtfhcfaflggiacaaDoor
open Go.RowKit
open Tt

def DepthSaid (x : Tm) : Prop := ∀ (S : Nat → Prop) (v : Value) (w : World), sz x ≤ 4000000 → Rep w S x v → (∀ b, S b → b < w.heap.size) →
  Calls Tryd.prog 43 #[v] w fun e w' => e = .returned (.int .i64 (dp x : Nat)) ∧ Below w.heap.size w w'

set_option maxHeartbeats 1000000 in
set_option maxRecDepth 100000 in
theorem depth_any : ∀ x, DepthSaid x := Tm.ind (by
  intro k s m q ih S v w hsz hr hS
  obtain ⟨A, ca, rfl, -, hrow⟩ := rep_mk.1 hr
  rw [sz] at hsz
  rw [dp]
  have hql := szs_len q
  obtain ⟨z, hz⟩ : ∃ z, z = w.heap.size := ⟨_, rfl⟩
  obtain ⟨n, hn⟩ : ∃ n, n = q.length := ⟨_, rfl⟩
  have hg0 := heap_alloc_new w (.cells #[.int .i64 k, .string ⟨⟨s⟩⟩, .int .i64 m, .slice A n ca] 25)
  have hb0 : Below w.heap.size w (w.alloc (.cells #[.int .i64 k, .string ⟨⟨s⟩⟩, .int .i64 m, .slice A n ca] 25)) := (Below.refl _ _).alloc (Nat.le_refl _) _
  rw [← hz] at hg0
  have HG0 := Lib.hid hg0
  have HB0 := Lib.hid hb0
  have HR := Lib.hid hrow
  have HS := Lib.hid hS
  have HI := Lib.hid ih
  have HZ := Lib.hid hz
  have HN := Lib.hid hn
  rw [← hn] at hql ⊢
  clear hr hrow hS ih hg0 hb0 hz hn
  go_enter Tryd.func43, Tryd.ntmps43
  go_wp2
  rw [← HZ.out]
  go_loopw [3, 4] (fun nv iv wr => ∃ i : Nat, i ≤ n ∧ iv = .int .i64 (i : Nat) ∧ nv = .int .i64 ((dps (q.take i) : Nat) : Int) ∧ Hid (Below w.heap.size w wr) ∧ Hid (wr.heap[z]? = some (.cells #[.int .i64 k, .string ⟨⟨s⟩⟩, .int .i64 m, .slice A n ca] 25 (0, 0)))) (fun _ iv _ => n - (intOf iv).toNat)
  case atStart => exact ⟨0, by omega, rfl, by simp [dps], HB0, HG0⟩
  case round =>
    obtain ⟨i, hi, rfl, rfl, HB, HG⟩ := hrel
    obtain ⟨c0, c1, c2, c3⟩ := cell4 HG.out
    by_cases hlt : i < n
    · have hlt1 : i < q.length := by rw [← HN.out]; exact hlt
      have hil : (i : Int) < (n : Int) := by omega
      obtain ⟨b, o, k1, s1, m1, q1, B1, cb1, rfl, hSb, hx, d0, d1, d2, d3, hrep⟩ := trow_get HR.out HB.out HS.out hlt1
      have hts := dps_take_succ q i hlt1
      have htl := szs_mem q q[i] (List.getElem_mem hlt1)
      have hdu : dps (q.take i) ≤ szs (q.take i) := by
        rw [dps_le]
        intro x hx
        have := dp_sz x
        have := szs_mem _ x hx
        omega
      have htk := szs_take_le q i
      have hdt := dp_sz q[i]
      have hmem : q[i] ∈ q := List.getElem_mem hlt1
      have hc := HI.out _ hmem
      rw [hx] at hts hc htl hdt
      have hcall := hc S _ wr (by omega) hrep (fun b hb => Nat.lt_of_lt_of_le (HS.out b hb) HB.out.size)
      have HC := Lib.hid hcall
      obtain ⟨t, ht⟩ : ∃ t, t = dp (.mk k1 s1 m1 q1) := ⟨_, rfl⟩
      rw [← ht] at HC hts hdt
      obtain ⟨u, hu⟩ : ∃ u, u = dps (q.take i) := ⟨_, rfl⟩
      rw [← hu] at hts hdu ⊢
      have HT : Hid (dps (q.take (i + 1)) = max u (1 + t)) := hts
      have hsum : t ≤ 4000000 := by omega
      have hsum2 : u ≤ 4000000 := by omega
      have hzl := (Array.getElem?_eq_some_iff.1 HG.out).1
      clear hcall hc hx hrep hmem hts htl hu ht hdu htk hdt
      go_wp2_with fail
      refine HC.out.mono ?_
      rintro _ w1 ⟨rfl, b1⟩
      have HB1 : Hid (Below w.heap.size w w1) := HB.out.trans (b1.mono HB.out.size)
      have HG1 := Lib.hid ((b1.block z hzl).trans HG.out)
      clear b1 HC HB HG c0 c1 c2 c3 d0 d1 d2 d3
      by_cases hmx : u < 1 + t
      · have hmi : (u : Int) < 1 + (t : Int) := by omega
        have HE : Hid (max u (1 + t) = 1 + t) := by show max u (1 + t) = _; omega
        go_wp2
        go_roundw
        case rel => exact ⟨i + 1, by omega, by go_num, by rw [HT.out, HE.out]; go_num, HB1, HG1⟩
        case measure => simp [intOf]; omega
      · have hmi : ¬ (u : Int) < 1 + (t : Int) := by omega
        have HE : Hid (max u (1 + t) = u) := by show max u (1 + t) = _; omega
        go_wp2
        go_roundw
        case rel => exact ⟨i + 1, by omega, by go_num, by rw [HT.out, HE.out]; go_num, HB1, HG1⟩
        case measure => simp [intOf]; omega
    · have hie : q.take i = q := List.take_of_length_le (by rw [← HN.out]; omega)
      rw [hie]
      have hil : ¬ (i : Int) < (n : Int) := by omega
      go_wp2
      go_ret
      exact ⟨rfl, HB.out⟩)
end Go.Proofs.YtfhcfaflggiacaaDoor
