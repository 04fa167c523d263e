/- The document's Order. -/
import Derived.Test.YtfhcfaflggiacaaDoorTmW8
import Derived.Test.YtfhcfaflggiacaaDoorTmQ4
import Derived.Lib.QuietBelow
namespace Go.Proofs.YtfhcfaflggiacaaDoor
open Go.RowKit
open Tt

set_option maxRecDepth 100000 in
theorem sign_any (b : Bool) (w : World) : Calls Tryd.prog 55 #[.bool b] w fun e w' => e = .returned (.int .i64 (if b then -1 else 1)) ∧ w' = w := by
  go_enter Tryd.func55, Tryd.ntmps55
  cases b
  · go_wp2
    go_ret
    exact ⟨rfl, rfl⟩
  · go_wp2
    go_ret
    exact ⟨rfl, rfl⟩

def ROrderSaid (x : Tm) : Prop := ∀ (y : Tm) (S : Nat → Prop) (vx vy : Value) (w : World), sz x ≤ 262144 → Rep w S x vx → Rep w S y vy → (∀ b, S b → b < w.heap.size) →
  Calls Tryd.prog 40 #[vx, vy] w fun e w' => e = .returned (.int .i64 (ord x y)) ∧ Below w.heap.size w w'

theorem lx_at {p q : Int} (h : p ≠ 0) : lx p q = p := by unfold lx; simp [h]
theorem lx_on {p q : Int} (h : p = 0) : lx p q = q := by unfold lx; simp [h]
theorem ci_ne {a b : Int} (h : a ≠ b) : ci a b = if a < b then -1 else 1 := by unfold ci; simp [h]
theorem ci_ne0 {a b : Int} (h : a ≠ b) : ci a b ≠ 0 := by rw [ci_ne h]; split <;> decide

set_option maxHeartbeats 2000000 in
set_option maxRecDepth 100000 in
theorem refOrder_any : ∀ x, ROrderSaid x := Tm.ind (by
  intro k s m q ih y S vx vy w hsz hrx hry hS
  obtain ⟨k', s', m', q'⟩ := y
  obtain ⟨A, ca, rfl, -, hr⟩ := rep_mk.1 hrx
  obtain ⟨A', ca', rfl, -, hr'⟩ := rep_mk.1 hry
  rw [sz] at hsz
  have hll := szs_len q
  have HR := Lib.hid hr
  have HR' := Lib.hid hr'
  have HS := Lib.hid hS
  have HI := Lib.hid ih
  have HSZ := Lib.hid hsz
  obtain ⟨R, hR⟩ : ∃ R, R = ord (.mk k s m q) (.mk k' s' m' q') := ⟨_, rfl⟩
  rw [← hR]
  rw [ord_lx, hd_lx] at hR
  have HRR := Lib.hid hR
  obtain ⟨n, hn⟩ : ∃ n, n = q.length := ⟨_, rfl⟩
  obtain ⟨n', hn'⟩ : ∃ n', n' = q'.length := ⟨_, rfl⟩
  have HN := Lib.hid hn
  have HN' := Lib.hid hn'
  rw [← hn, ← hn']
  rw [← hn] at hll
  obtain ⟨z, hz⟩ : ∃ z, z = w.heap.size := ⟨_, rfl⟩
  obtain ⟨W2, hW2⟩ : ∃ W2, W2 = ((w.alloc (.cells #[.int .i64 k, .string ⟨⟨s⟩⟩, .int .i64 m, .slice A n ca] 25)).alloc (.cells #[.int .i64 k', .string ⟨⟨s'⟩⟩, .int .i64 m', .slice A' n' ca'] 25)) := ⟨_, rfl⟩
  have hB2 : Below w.heap.size w W2 := by rw [hW2]; exact ((Below.refl _ _).alloc (Nat.le_refl _) _).alloc (by simp) _
  have hs2 : W2.heap.size = z + 2 := by rw [hW2, hz]; simp
  have hg0 : W2.heap[z]? = some (.cells #[.int .i64 k, .string ⟨⟨s⟩⟩, .int .i64 m, .slice A n ca] 25 (0, 0)) := by
    rw [hW2, hz, heap_alloc_old _ _ (by simp)]; exact heap_alloc_new w _
  have hg1 : W2.heap[z + 1]? = some (.cells #[.int .i64 k', .string ⟨⟨s'⟩⟩, .int .i64 m', .slice A' n' ca'] 25 (0, 0)) := by
    rw [hW2, hz]
    have := heap_alloc_new (w.alloc (.cells #[.int .i64 k, .string ⟨⟨s⟩⟩, .int .i64 m, .slice A n ca] 25)) (.cells #[.int .i64 k', .string ⟨⟨s'⟩⟩, .int .i64 m', .slice A' n' ca'] 25)
    rwa [World.size_alloc] at this
  have HC : Hid (∀ W, Below W2.heap.size W2 W → Below w.heap.size w W ∧ (W.cell? ⟨z, 0, none⟩ = some (.int .i64 k) ∧ W.cell? ⟨z, 1, none⟩ = some (.string ⟨⟨s⟩⟩) ∧ W.cell? ⟨z, 2, none⟩ = some (.int .i64 m) ∧ W.cell? ⟨z, 3, none⟩ = some (.slice A n ca)) ∧ (W.cell? ⟨z + 1, 0, none⟩ = some (.int .i64 k') ∧ W.cell? ⟨z + 1, 1, none⟩ = some (.string ⟨⟨s'⟩⟩) ∧ W.cell? ⟨z + 1, 2, none⟩ = some (.int .i64 m') ∧ W.cell? ⟨z + 1, 3, none⟩ = some (.slice A' n' ca'))) := fun W h =>
    ⟨hB2.trans (h.mono hB2.size), cell4 ((h.block z (by omega)).trans hg0), cell4 ((h.block (z + 1) (by omega)).trans hg1)⟩
  have HB2 := Lib.hid hB2
  have HW2 := Lib.hid hW2
  have HZ := Lib.hid hz
  clear hr hr' hrx hry hS ih hR hn hn' hz hW2 hB2 hs2 hg0 hg1
  obtain ⟨hb2, ⟨c0, c1, c2, c3⟩, ⟨d0, d1, d2, d3⟩⟩ := HC.out W2 (Below.refl _ _)
  rw [HW2.out, HZ.out] at c0 c1 c2 c3 d0 d1 d2 d3
  have HSG := fun b => Lib.hid (sign_any b W2)
  go_enter Tryd.func40, Tryd.ntmps40
  by_cases hk : k = k'
  case neg =>
    rcases Int.lt_or_gt_of_ne hk with hkl | hkl
    · have HH : Hid (R = -1) := by rw [Hid, HRR.out, lx_at (by rw [lx_at (ci_ne0 hk)]; exact ci_ne0 hk), lx_at (ci_ne0 hk), ci_ne hk]; simp; omega
      clear HRR
      go_wp2_with fail
      rw [← HW2.out]
      refine (HSG _).out.mono ?_
      rintro _ _ ⟨rfl, rfl⟩
      go_wp2
      go_ret
      exact ⟨by rw [HH.out]; rfl, HB2.out⟩
    · have HH : Hid (R = 1) := by rw [Hid, HRR.out, lx_at (by rw [lx_at (ci_ne0 hk)]; exact ci_ne0 hk), lx_at (ci_ne0 hk), ci_ne hk]; simp; omega
      clear HRR
      go_wp2_with fail
      rw [← HW2.out]
      refine (HSG _).out.mono ?_
      rintro _ _ ⟨rfl, rfl⟩
      go_wp2
      go_ret
      exact ⟨by rw [HH.out]; rfl, HB2.out⟩
  subst hk
  have hk0 : ci k k = 0 := ci_zero.2 rfl
  rw [Hid, lx_on hk0] at HRR
  by_cases hs : s = s'
  case neg =>
    have hc0 : cs s s' ≠ 0 := fun e => hs (cs_zero.1 e)
    have hbeq : (s == s') = false := by simp [hs]
    cases hbl : Op.bytesLess s s'
    · have HH : Hid (R = 1) := by rw [Hid, HRR, lx_at (by rw [lx_at hc0]; exact hc0), lx_at hc0, cs_eq]; simp [hs, hbl]
      clear HRR
      go_wp2_with fail
      rw [← HW2.out]
      refine (HSG _).out.mono ?_
      rintro _ _ ⟨rfl, rfl⟩
      go_wp2
      go_ret
      exact ⟨by rw [HH.out]; rfl, HB2.out⟩
    · have HH : Hid (R = -1) := by rw [Hid, HRR, lx_at (by rw [lx_at hc0]; exact hc0), lx_at hc0, cs_eq]; simp [hbl]
      clear HRR
      go_wp2_with fail
      rw [← HW2.out]
      refine (HSG _).out.mono ?_
      rintro _ _ ⟨rfl, rfl⟩
      go_wp2
      go_ret
      exact ⟨by rw [HH.out]; rfl, HB2.out⟩
  subst hs
  have hs0 : cs s s = 0 := cs_zero.2 rfl
  rw [lx_on hs0] at HRR
  by_cases hm : m = m'
  case neg =>
    rcases Int.lt_or_gt_of_ne hm with hml | hml
    · have HH : Hid (R = -1) := by rw [Hid, HRR, lx_at (ci_ne0 hm), ci_ne hm]; simp; omega
      clear HRR
      go_wp2_with fail
      rw [← HW2.out]
      refine (HSG _).out.mono ?_
      rintro _ _ ⟨rfl, rfl⟩
      go_wp2
      go_ret
      exact ⟨by rw [HH.out]; rfl, HB2.out⟩
    · have HH : Hid (R = 1) := by rw [Hid, HRR, lx_at (ci_ne0 hm), ci_ne hm]; simp; omega
      clear HRR
      go_wp2_with fail
      rw [← HW2.out]
      refine (HSG _).out.mono ?_
      rintro _ _ ⟨rfl, rfl⟩
      go_wp2
      go_ret
      exact ⟨by rw [HH.out]; rfl, HB2.out⟩
  subst hm
  rw [lx_on (ci_zero.2 rfl)] at HRR
  have HRQ : Hid (R = ords q q') := HRR
  clear HRR HSG
  have HB22 : Hid (Below W2.heap.size W2 W2) := Below.refl _ _
  go_wp2
  rw [← HW2.out, ← HZ.out]
  go_loopw [5] (fun iv wr => ∃ i : Nat, i ≤ n ∧ iv = .int .i64 (i : Nat) ∧ i ≤ n' ∧ Hid (∀ j (h : j < q.length) (h' : j < q'.length), j < i → ord q[j] q'[j] = 0) ∧ Hid (Below W2.heap.size W2 wr)) (fun iv _ => n - (intOf iv).toNat)
  case atStart => exact ⟨0, by omega, rfl, by omega, Lib.hid (fun j _ _ h => absurd h (by omega)), HB22⟩
  case round =>
    obtain ⟨i, hi, rfl, hi', HA, HB⟩ := hrel
    clear c0 c1 c2 c3 d0 d1 d2 d3
    obtain ⟨hbw, ⟨c0, c1, c2, c3⟩, ⟨d0, d1, d2, d3⟩⟩ := HC.out wr HB.out
    have hdr := ords_drop i q q' (by rw [← HN.out]; exact hi) (by rw [← HN'.out]; exact hi') HA.out
    by_cases hlt : i < n
    · have hlt1 : i < q.length := by rw [← HN.out]; exact hlt
      have hil : (i : Int) < (n : Int) := by omega
      by_cases hlt' : i < n'
      · have hlt2 : i < q'.length := by rw [← HN'.out]; exact hlt'
        have hil' : (i : Int) < (n' : Int) := by omega
        obtain ⟨b, o, k1, s1, m1, p1, C1, cb1, rfl, hSb, hx, e0, e1, e2, e3, hrep⟩ := trow_get HR.out hbw HS.out hlt1
        obtain ⟨b', o', k2, s2, m2, p2, C2, cb2, rfl, hSb', hx', f0, f1, f2, f3, hrep'⟩ := trow_get HR'.out hbw HS.out hlt2
        have hSw : ∀ b, S b → b < wr.heap.size := fun b hb => Nat.lt_of_lt_of_le (HS.out b hb) hbw.size
        have hmem : q[i] ∈ q := List.getElem_mem hlt1
        have hszm := szs_mem q _ hmem
        have hO := HI.out _ hmem
        have hhit := ords_hit q q' i hlt1 hlt2
        have hnx : ord q[i] q'[i] = 0 → ∀ j (h : j < q.length) (h' : j < q'.length), j < i + 1 → ord q[j] q'[j] = 0 := by
          intro h0 j h1 h2 h3
          rcases Nat.lt_or_ge j i with h4 | h4
          · exact HA.out j h1 h2 h4
          · have : j = i := by omega
            subst this; exact h0
        rw [hx] at hO hszm hhit hnx
        rw [hx'] at hhit hnx
        have hsz1 : sz (.mk k1 s1 m1 p1) ≤ 262144 := by have := HSZ.out; omega
        obtain ⟨r, hr⟩ : ∃ r, r = ord (.mk k1 s1 m1 p1) (.mk k2 s2 m2 p2) := ⟨_, rfl⟩
        rw [← hr] at hhit hnx
        have cO : ∀ d os, Calls Tryd.prog 40 #[.agg #[.int .i64 k1, .string ⟨⟨s1⟩⟩, .int .i64 m1, .slice C1 p1.length cb1], .agg #[.int .i64 k2, .string ⟨⟨s2⟩⟩, .int .i64 m2, .slice C2 p2.length cb2]] (Go.Sort.grow (redrawn wr d) os) fun e w'' => e = .returned (.int .i64 r) ∧ ∃ p : Regrown, w'' = Go.Sort.grow (redrawn wr p.d) p.os := fun d os => by
          rw [hr]
          exact Calls.regrown_of (hO (.mk k2 s2 m2 p2) S _ _ _ hsz1 (rep_at hrep (below_regrown wr d os) hSw) (rep_at hrep' (below_regrown wr d os) hSw) (fun b hb => Nat.lt_of_lt_of_le (hSw b hb) (below_regrown wr d os).size))
        have g0 := fun d os => cell_regrown c0 d os
        have g1 := fun d os => cell_regrown c1 d os
        have g2 := fun d os => cell_regrown c2 d os
        have g3 := fun d os => cell_regrown c3 d os
        have g4 := fun d os => cell_regrown d0 d os
        have g5 := fun d os => cell_regrown d1 d os
        have g6 := fun d os => cell_regrown d2 d os
        have g7 := fun d os => cell_regrown d3 d os
        have j0 := fun d os => cell_regrown e0 d os
        have j1 := fun d os => cell_regrown e1 d os
        have j2 := fun d os => cell_regrown e2 d os
        have j3 := fun d os => cell_regrown e3 d os
        have j4 := fun d os => cell_regrown f0 d os
        have j5 := fun d os => cell_regrown f1 d os
        have j6 := fun d os => cell_regrown f2 d os
        have j7 := fun d os => cell_regrown f3 d os
        have HNX := Lib.hid hnx
        have HH : Hid (r ≠ 0 → R = r) := fun h0 => HRQ.out.trans (hdr.trans (hhit h0))
        clear hnx hhit hO hszm hmem hrep hrep' hx hx' hr HA hdr hbw
        go_wp2_with fail
        refine wp_region_quiet_below (by kernel_rfl) (by kernel_rfl) ?_
        repeat (quiet_step (exact cO _ _))
        refine wpQuiet_nil ?_
        intro _ hw'
        obtain ⟨⟨dq, osq⟩, hw''⟩ := hw'
        subst hw''
        have b6 := below_regrown wr dq osq
        clear g0 g1 g2 g3 g4 g5 g6 g7 j0 j1 j2 j3 j4 j5 j6 j7 cO
        generalize Go.Sort.grow (redrawn wr dq) osq = w6 at *
        have HB6 : Hid (Below W2.heap.size W2 w6) := HB.out.trans (b6.mono HB.out.size)
        clear b6 c0 c1 c2 c3 d0 d1 d2 d3 e0 e1 e2 e3 f0 f1 f2 f3
        by_cases h0 : r = 0
        · have HNX2 := Lib.hid (HNX.out h0)
          subst h0
          go_wp2
          go_roundw
          case rel => exact ⟨i + 1, by omega, by go_num, by omega, HNX2, HB6⟩
          case measure => simp [intOf]; omega
        · have HE : Hid (R = r) := HH.out h0
          go_wp2
          go_ret
          exact ⟨by rw [HE.out]; rfl, (HC.out w6 HB6.out).1⟩
      · have hil' : ¬ (i : Int) < (n' : Int) := by omega
        have hnn : ¬ (n : Int) = (n' : Int) := by omega
        have hnn2 : ¬ (n : Int) < (n' : Int) := by omega
        have HH : Hid (R = 1) := HRQ.out.trans (hdr.trans (ords_more q q' i hlt1 (by rw [← HN'.out]; omega)))
        have HSG := fun b => Lib.hid (sign_any b wr)
        have HBW := Lib.hid hbw
        clear hdr HA hbw
        go_wp2_with fail
        refine (HSG _).out.mono ?_
        rintro _ _ ⟨rfl, rfl⟩
        go_wp2
        go_ret
        exact ⟨by rw [HH.out]; rfl, HBW.out⟩
    · have hil : ¬ (i : Int) < (n : Int) := by omega
      by_cases hlt' : i < n'
      · have hnn : ¬ (n : Int) = (n' : Int) := by omega
        have hnn2 : (n : Int) < (n' : Int) := by omega
        have HH : Hid (R = -1) := HRQ.out.trans (hdr.trans (ords_less q q' i (by rw [← HN.out]; omega) (by rw [← HN'.out]; omega)))
        have HSG := fun b => Lib.hid (sign_any b wr)
        have HBW := Lib.hid hbw
        clear hdr HA hbw
        go_wp2_with fail
        refine (HSG _).out.mono ?_
        rintro _ _ ⟨rfl, rfl⟩
        go_wp2
        go_ret
        exact ⟨by rw [HH.out]; rfl, HBW.out⟩
      · obtain rfl : n = n' := by omega
        have HH : Hid (R = 0) := HRQ.out.trans (hdr.trans (ords_both q q' i (by rw [← HN.out]; omega) (by rw [← HN'.out]; omega)))
        have HBW := Lib.hid hbw
        clear hdr HA hbw
        go_wp2
        go_ret
        exact ⟨by rw [HH.out]; rfl, HBW.out⟩)
end Go.Proofs.YtfhcfaflggiacaaDoor
