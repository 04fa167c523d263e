/- TermParts. -/
import Derived.Test.YtfhcfaflggiacaaDoorTmW13
import Derived.Test.YtfhcfaflggiacaaDoorTmQ
import Derived.Test.YtfhcfaflggiacaaDoorTmQ2
import Derived.Test.YtfhcfaflggiacaaDoorTmV1
import Derived.Lib.QuietBelow
namespace Go.Proofs.YtfhcfaflggiacaaDoor
open Go.RowKit
open Tt

theorem trow_lo {w w' : World} {l : List Tm} {A : Option Addr} (h : TRow w' (fun b => Lo w b ∨ w.heap.size ≤ b ∧ b < w'.heap.size) l A) (hb : w.heap.size ≤ w'.heap.size) : TRow w' (Lo w') l A :=
  trow_keep (fun b hb' => by rcases hb' with h | h; exact Nat.lt_of_lt_of_le h hb; exact h.2) (fun _ _ _ => rfl) h

set_option maxHeartbeats 2000000 in
set_option maxRecDepth 100000 in
theorem termParts_walk (x : Tm) (vx : Value) (w : World) (hkx : bk x ≤ 1048576) (rx : Rep w (Lo w) x vx) (htab : TabB w.heap.size w) :
    Calls Tryd.prog 7 #[vx] w fun e w' => e = .returned (.bool true) ∧ Below w.heap.size w w' := by
  have hsx := sz_le_bk x
  have HX : Hid (∀ W, Below w.heap.size w W → Rep W (Lo W) x vx) := fun W h => rx.lo h
  have hlx := fun W h => Large_any x 200 (Lo W) vx W (by omega) (HX.out W h) (fun _ h => h)
  have hps := fun W h (h2 : sz x ≤ 262144) => Parts_any x (Lo W) vx W h2 (HX.out W h) (fun _ h => h)
  have hsz := fun W h (h2 : sz x ≤ 262144) => Size_any x (Lo W) vx W h2 (HX.out W h) (fun _ h => h)
  have hvl := fun W h (h2 : sz x ≤ 262144) => Valid_any x (Lo W) vx W h2 (HX.out W h) (fun _ h => h)
  have hsame := fun W h (v' : Value) (h2 : sz x ≤ 262144) (h3 : Rep W (Lo W) x v') => Same_any x x (Lo W) v' vx W h2 h3 (HX.out W h) (fun _ h => h)
  rw [ord_refl] at hsame
  have hpos := sz_pos x
  have hPl := ps_len x
  have hP0 := ps_zero x
  have hPat := ps_at x
  obtain ⟨N, hN⟩ : ∃ N, N = sz x := ⟨_, rfl⟩
  obtain ⟨V, hV⟩ : ∃ V, V = vld 0 x := ⟨_, rfl⟩
  obtain ⟨P, hP⟩ : ∃ P, P = ps x := ⟨_, rfl⟩
  have hps' : ∀ W, Below w.heap.size w W → N ≤ 262144 → Calls Tryd.prog 12 #[vx] W fun e w' => ∃ A ca, e = .returned (.slice A N ca) ∧ TRow w' (fun b => Lo W b ∨ W.heap.size ≤ b ∧ b < w'.heap.size) P A ∧ Below W.heap.size W w' := by
    intro W h h2
    rw [hN, hP]
    exact hps W h (by omega)
  rw [← hN] at hlx hsz hvl hsame hpos hPl hsx hPat
  rw [← hV] at hvl hPat
  rw [← hP] at hPl
  have hP0' : ∀ h : 0 < P.length, P[0] = x := by subst hP; exact hP0
  have hPat' : ∀ i (h : i < P.length), i + sz P[i] ≤ N ∧ (V = true → vld 0 P[i] = true) := by subst hP; exact hPat
  clear hP0 hPat hps hN hV hP
  obtain ⟨k1, s1, n1, l1⟩ := x
  obtain ⟨A1, ca1, rfl, -, -⟩ := rep_mk.1 rx
  obtain ⟨z, hz⟩ : ∃ z, z = w.heap.size := ⟨_, rfl⟩
  obtain ⟨W2, hW2⟩ : ∃ W2, W2 = (w.alloc (.cells #[.int .i64 k1, .string ⟨⟨s1⟩⟩, .int .i64 n1, .slice A1 l1.length ca1] 25)) := ⟨_, rfl⟩
  have hB2 : Below w.heap.size w W2 := by rw [hW2]; exact (Below.refl _ _).alloc (Nat.le_refl _) _
  have hs2 : W2.heap.size = z + 1 := by rw [hW2, hz]; simp
  have hg0 : W2.heap[z]? = some (.cells #[.int .i64 k1, .string ⟨⟨s1⟩⟩, .int .i64 n1, .slice A1 l1.length ca1] 25 (0, 0)) := by
    rw [hW2, hz]; exact heap_alloc_new w _
  have HC : Hid (∀ W, Below W2.heap.size W2 W → Below w.heap.size w W ∧ (W.cell? ⟨z, 0, none⟩ = some (.int .i64 k1) ∧ W.cell? ⟨z, 1, none⟩ = some (.string ⟨⟨s1⟩⟩) ∧ W.cell? ⟨z, 2, none⟩ = some (.int .i64 n1) ∧ W.cell? ⟨z, 3, none⟩ = some (.slice A1 l1.length ca1))) := fun W h =>
    ⟨hB2.trans (h.mono hB2.size), cell4 ((h.block z (by omega)).trans hg0)⟩
  have HWK := Lib.hid (works_any W2 (htab.up hB2))
  have HLX := Lib.hid hlx
  have HPS := Lib.hid hps'
  have HVL := Lib.hid hvl
  have HSZ := Lib.hid hsz
  have HSAME := Lib.hid hsame
  have HP0 := Lib.hid hP0'
  have HPAT := Lib.hid hPat'
  have HPL := Lib.hid hPl
  have HW2 := Lib.hid hW2
  have HZ := Lib.hid hz
  have HN1 := Lib.hid hpos
  clear rx htab hlx hW2 hz hB2 hs2 hg0 hps' hvl hsz hsame hP0' hPat' hPl hpos
  go_enter Tryd.func7, Tryd.ntmps7
  go_wp2_with fail
  rw [← HW2.out]
  refine HWK.out.mono ?_
  rintro _ w3 ⟨rfl, b3⟩
  have HB3 := Lib.hid b3
  obtain ⟨hb, c0, c1, c2, c3⟩ := HC.out w3 b3
  have HL1 := Lib.hid (HLX.out w3 hb)
  clear b3 hb HWK
  obtain ⟨B1, hB1⟩ : ∃ B1, B1 = decide (200 < N) := ⟨_, rfl⟩
  rw [← hB1] at HL1
  have HB1Q := Lib.hid hB1
  clear hB1
  rw [← HZ.out]
  go_wp2_with fail
  refine HL1.out.mono ?_
  rintro _ w4 ⟨rfl, b4⟩
  have HB4 : Hid (Below W2.heap.size W2 w4) := HB3.out.trans (b4.mono HB3.out.size)
  clear c0 c1 c2 c3 HL1 b4 HB3
  obtain ⟨hb, c0, c1, c2, c3⟩ := HC.out w4 HB4.out
  have HBW4 := Lib.hid hb
  clear hb
  cases B1
  case true =>
    go_wp2
    go_ret
    exact ⟨rfl, HBW4.out⟩
  case false =>
    have hN200 : N ≤ 200 := by have := HB1Q.out; simpa using this
    clear HB1Q
    have HP := Lib.hid (HPS.out w4 HBW4.out (by omega))
    go_wp2_with fail
    refine HP.out.mono ?_
    rintro _ w5 ⟨A, ca, rfl, hrow5, b5⟩
    have HB5 : Hid (Below W2.heap.size W2 w5) := HB4.out.trans (b5.mono HB4.out.size)
    have HR5 := Lib.hid (trow_lo hrow5 b5.size)
    clear c0 c1 c2 c3 hrow5 b5 HP HB4 HBW4
    obtain ⟨hb5, c0, c1, c2, c3⟩ := HC.out w5 HB5.out
    have HBW5 := Lib.hid hb5
    clear hb5
    have hPpos : 0 < P.length := by have := HPL.out; have := HN1.out; omega
    obtain ⟨b, ob, k2, s2, n2, q2, B2, cb2, rfl, hSb, hx2, d0, d1, d2, d3, hrep2⟩ := trow_get HR5.out (Below.refl w5.heap.size w5) (fun _ h => h) hPpos
    rw [HP0.out hPpos] at hx2
    injection hx2 with e1 e2 e3 e4
    subst e1 e2 e3 e4
    simp only [Nat.zero_mul, Nat.add_zero] at d0 d1 d2 d3
    have cSZ : ∀ d os, Calls Tryd.prog 21 #[.agg #[.int .i64 k1, .string ⟨⟨s1⟩⟩, .int .i64 n1, .slice A1 l1.length ca1]] (Go.Sort.grow (redrawn w5 d) os) fun e w'' => e = .returned (.int .i64 (N : Nat)) ∧ ∃ p : Regrown, w'' = Go.Sort.grow (redrawn w5 p.d) p.os := fun d os => Calls.regrown_of (HSZ.out _ (HBW5.out.trans ((below_regrown w5 d os).mono HBW5.out.size)) (by omega))
    have cSM : ∀ d os, Calls Tryd.prog 41 #[.agg #[.int .i64 k1, .string ⟨⟨s1⟩⟩, .int .i64 n1, .slice B2 l1.length cb2], .agg #[.int .i64 k1, .string ⟨⟨s1⟩⟩, .int .i64 n1, .slice A1 l1.length ca1]] (Go.Sort.grow (redrawn w5 d) os) fun e w'' => e = .returned (.bool true) ∧ ∃ p : Regrown, w'' = Go.Sort.grow (redrawn w5 p.d) p.os := fun d os => Calls.regrown_of (HSAME.out _ (HBW5.out.trans ((below_regrown w5 d os).mono HBW5.out.size)) _ (by omega) (hrep2.lo (below_regrown w5 d os)))
    have e0 := fun d os => cell_regrown c0 d os
    have e1 := fun d os => cell_regrown c1 d os
    have e2 := fun d os => cell_regrown c2 d os
    have e3 := fun d os => cell_regrown c3 d os
    have f0 := fun d os => cell_regrown d0 d os
    have f1 := fun d os => cell_regrown d1 d os
    have f2 := fun d os => cell_regrown d2 d os
    have f3 := fun d os => cell_regrown d3 d os
    have hNpos : ¬ ((N : Int) < 1) := by have := HN1.out; omega
    have hNpos2 : (0 : Int) < (N : Int) := by have := HN1.out; omega
    have hNpos3 : 0 < N := HN1.out
    go_wp2_with fail
    refine wp_region_quiet_below (by kernel_rfl) (by kernel_rfl) ?_
    repeat (quiet_step (first | exact cSZ _ _ | exact cSM _ _))
    refine wpQuiet_nil ?_
    intro _ hw'
    obtain ⟨⟨dq, osq⟩, hw''⟩ := hw'
    subst hw''
    have b6 := below_regrown w5 dq osq
    clear e0 e1 e2 e3 f0 f1 f2 f3 cSZ cSM hNpos2 hNpos3
    generalize Go.Sort.grow (redrawn w5 dq) osq = w6 at *
    have HB6 : Hid (Below W2.heap.size W2 w6) := HB5.out.trans (b6.mono HB5.out.size)
    have HB56 := Lib.hid b6
    clear c0 c1 c2 c3 d0 d1 d2 d3 b6 HBW5 HB5
    obtain ⟨hb6, c0, c1, c2, c3⟩ := HC.out w6 HB6.out
    have HV6 := Lib.hid (HVL.out w6 hb6 (by omega))
    have HBW6 := Lib.hid hb6
    clear hb6
    go_wp2_with fail
    refine HV6.out.mono ?_
    rintro _ w7 ⟨rfl, b7⟩
    have HBW7 : Hid (Below w.heap.size w w7) := HBW6.out.trans (b7.mono HBW6.out.size)
    have HB57 : Hid (Below w5.heap.size w5 w7) := HB56.out.trans (b7.mono HB56.out.size)
    clear c0 c1 c2 c3 b7 HV6 HBW6 HB56 hSb hrep2 hNpos
    cases V
    case false =>
      go_wp2
      go_loopw [7] (fun iv wr => ∃ i : Nat, i ≤ N ∧ iv = .int .i64 (i : Nat) ∧ Hid (Below w.heap.size w wr) ∧ Hid (Below w5.heap.size w5 wr)) (fun iv _ => N - (intOf iv).toNat)
      case atStart => exact ⟨0, by omega, rfl, HBW7, HB57⟩
      case round =>
        obtain ⟨i, hi, rfl, HB, HBr⟩ := hrel
        by_cases hlt : i < N
        · have hltP : i < P.length := by have := HPL.out; omega
          have hil : (i : Int) < (N : Int) := by omega
          obtain ⟨b', ob', k, s, m, q, B, cb, hA, hSb, hx, d0, d1, d2, d3, hrep⟩ := trow_get HR5.out HBr.out (fun _ h => h) hltP
          obtain ⟨rfl, rfl⟩ : b = b' ∧ ob = ob' := by simpa using hA
          have hat := HPAT.out i hltP
          rw [hx] at hat
          obtain ⟨hat1, hat2⟩ := hat
          have HSi := Lib.hid (Size_any _ (Lo wr) _ wr (by omega) (rep_keep (fun b hb => Nat.lt_of_lt_of_le hb HBr.out.size) (fun _ _ _ => rfl) _ _ hrep) (fun _ h => h))
          obtain ⟨t, ht⟩ : ∃ t, t = sz (.mk k s m q) := ⟨_, rfl⟩
          rw [← ht] at hat1 HSi
          clear hx hrep hat2 ht hA
          go_wp2_with fail
          refine HSi.out.mono ?_
          rintro _ w9 ⟨rfl, b9⟩
          have HB9 : Hid (Below w.heap.size w w9) := HB.out.trans (b9.mono HB.out.size)
          have HBr9 : Hid (Below w5.heap.size w5 w9) := HBr.out.trans (b9.mono HBr.out.size)
          have hgt : ¬ ((N : Int) - (i : Int) < (t : Int)) := by omega
          clear b9 HSi d0 d1 d2 d3
          go_wp2
          go_roundw
          case rel => exact ⟨i + 1, by omega, by go_num, HB9, HBr9⟩
          case measure => simp [intOf]; omega
        · have hil : ¬ (i : Int) < (N : Int) := by omega
          go_wp2
          go_ret
          exact ⟨rfl, HB.out⟩
    case true =>
      go_wp2
      go_loopw [7] (fun iv wr => ∃ i : Nat, i ≤ N ∧ iv = .int .i64 (i : Nat) ∧ Hid (Below w.heap.size w wr) ∧ Hid (Below w5.heap.size w5 wr)) (fun iv _ => N - (intOf iv).toNat)
      case atStart => exact ⟨0, by omega, rfl, HBW7, HB57⟩
      case round =>
        obtain ⟨i, hi, rfl, HB, HBr⟩ := hrel
        by_cases hlt : i < N
        · have hltP : i < P.length := by have := HPL.out; omega
          have hil : (i : Int) < (N : Int) := by omega
          obtain ⟨b', ob', k, s, m, q, B, cb, hA, hSb, hx, d0, d1, d2, d3, hrep⟩ := trow_get HR5.out HBr.out (fun _ h => h) hltP
          obtain ⟨rfl, rfl⟩ : b = b' ∧ ob = ob' := by simpa using hA
          have hat := HPAT.out i hltP
          rw [hx] at hat
          obtain ⟨hat1, hat2⟩ := hat
          have hv := Valid_any _ (Lo wr) _ wr (by omega) (rep_keep (fun b hb => Nat.lt_of_lt_of_le hb HBr.out.size) (fun _ _ _ => rfl) _ _ hrep) (fun _ h => h)
          rw [hat2 trivial] at hv
          have HVi := Lib.hid hv
          have HS1 : Hid (∀ W, Below wr.heap.size wr W → Calls Tryd.prog 21 #[.agg #[.int .i64 k, .string ⟨⟨s⟩⟩, .int .i64 m, .slice B q.length cb]] W fun e w' => e = .returned (.int .i64 (sz (.mk k s m q) : Nat)) ∧ Below W.heap.size W w') := fun W h =>
            Size_any _ (Lo W) _ W (by omega) (rep_keep (fun b hb => Nat.lt_of_lt_of_le hb (Nat.le_trans HBr.out.size h.size)) (fun b o hb => h.cell (p := ⟨b, o, none⟩) (Nat.lt_of_lt_of_le hb HBr.out.size)) _ _ hrep) (fun _ h => h)
          have HCi : Hid (∀ W, Below wr.heap.size wr W → W.cell? ⟨b, ob + i * 4, none⟩ = some (.int .i64 k) ∧ W.cell? ⟨b, ob + i * 4 + 1, none⟩ = some (.string ⟨⟨s⟩⟩) ∧ W.cell? ⟨b, ob + i * 4 + 2, none⟩ = some (.int .i64 m) ∧ W.cell? ⟨b, ob + i * 4 + 3, none⟩ = some (.slice B q.length cb)) := fun W h => by
            have hbl : b < wr.heap.size := Nat.lt_of_lt_of_le hSb HBr.out.size
            exact ⟨(h.cell (p := ⟨b, _, none⟩) hbl).trans d0, (h.cell (p := ⟨b, _, none⟩) hbl).trans d1, (h.cell (p := ⟨b, _, none⟩) hbl).trans d2, (h.cell (p := ⟨b, _, none⟩) hbl).trans d3⟩
          obtain ⟨t, ht⟩ : ∃ t, t = sz (.mk k s m q) := ⟨_, rfl⟩
          rw [← ht] at hat1 HS1
          clear hv hx hrep hat2 ht hA
          go_wp2_with fail
          refine HVi.out.mono ?_
          rintro _ w8 ⟨rfl, b8⟩
          have HS8 := Lib.hid (HS1.out w8 b8)
          clear d0 d1 d2 d3
          obtain ⟨d0, d1, d2, d3⟩ := HCi.out w8 b8
          have HB8 : Hid (Below w.heap.size w w8) := HB.out.trans (b8.mono HB.out.size)
          have HBr8 : Hid (Below w5.heap.size w5 w8) := HBr.out.trans (b8.mono HBr.out.size)
          clear b8 HVi HS1
          go_wp2_with fail
          refine HS8.out.mono ?_
          rintro _ w9 ⟨rfl, b9⟩
          have HB9 : Hid (Below w.heap.size w w9) := HB8.out.trans (b9.mono HB8.out.size)
          have HBr9 : Hid (Below w5.heap.size w5 w9) := HBr8.out.trans (b9.mono HBr8.out.size)
          have hgt : ¬ ((N : Int) - (i : Int) < (t : Int)) := by omega
          clear b9 HS8 d0 d1 d2 d3
          go_wp2
          go_roundw
          case rel => exact ⟨i + 1, by omega, by go_num, HB9, HBr9⟩
          case measure => simp [intOf]; omega
        · have hil : ¬ (i : Int) < (N : Int) := by omega
          go_wp2
          go_ret
          exact ⟨rfl, HB.out⟩
end Go.Proofs.YtfhcfaflggiacaaDoor
