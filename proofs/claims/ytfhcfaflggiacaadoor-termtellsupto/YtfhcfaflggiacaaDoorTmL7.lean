/- TermTells. -/
import Derived.Test.YtfhcfaflggiacaaDoorTmV10
import Derived.Test.YtfhcfaflggiacaaDoorTmV11
import Derived.Test.YtfhcfaflggiacaaDoorTmV12
import Derived.Test.YtfhcfaflggiacaaDoorTmV7
import Derived.Test.YtfhcfaflggiacaaDoorTmL2
namespace Go.Proofs.YtfhcfaflggiacaaDoor
open Go.RowKit
open Tt

set_option maxHeartbeats 8000000 in
set_option maxRecDepth 100000 in
theorem termTells_walk (x : Tm) (vx : Value) (s : List UInt8) (w : World) (hkx : bk x ≤ 1048576) (hs : s.length ≤ 1048576) (rx : Rep w (Lo w) x vx) (htab : TabB w.heap.size w) :
    Calls Tryd.prog 3 #[vx, .string ⟨⟨s⟩⟩] w fun e w' => e = .returned (.bool true) ∧ Below w.heap.size w w' := by
  have hsx := sz_le_bk x
  have htx := tx_len w _ x vx rx
  have HX : Hid (∀ W, Below w.heap.size w W → Rep W (Lo W) x vx) := fun W h => rx.lo h
  have hlx := fun W h => Large_any x 200 (Lo W) vx W (by omega) (HX.out W h) (fun _ h => h)
  have hps := fun W h (h2 : sz x ≤ 262144) => Parts_any x (Lo W) vx W h2 (HX.out W h) (fun _ h => h)
  have hrp := fun W h (h2 : sz x ≤ 262144) => refParts_any x (Lo W) vx W h2 (HX.out W h) (fun _ h => h)
  have hrv := fun W h => refValid_any x (Lo W) vx W (by omega) (HX.out W h) (fun _ h => h)
  have hvl := fun W h (h2 : sz x ≤ 262144) => Valid_any x (Lo W) vx W h2 (HX.out W h) (fun _ h => h)
  have hsz := fun W h (h2 : sz x ≤ 262144) => Size_any x (Lo W) vx W h2 (HX.out W h) (fun _ h => h)
  have hrs := fun W h => refSize_any x (Lo W) vx W (by omega) (HX.out W h) (fun _ h => h)
  have htt := fun W h (h2 : sz x ≤ 262144) ht => Text_any x (Lo W) vx W h2 (HX.out W h) (fun _ h => h) (by omega) ht
  have hrt := fun W h => refText_any x (Lo W) vx W (by omega) (HX.out W h) (fun _ h => h)
  have HSAME : Hid (∀ W y vy vz, sz y ≤ 262144 → Rep W (Lo W) y vy → Rep W (Lo W) y vz → Calls Tryd.prog 14 #[vy, vz] W fun e w' => e = .returned (.bool true) ∧ Below W.heap.size W w') := by
    intro W y vy vz h1 h2 h3
    have := refSame_any y y (Lo W) vy vz W h1 h2 h3 (fun _ h => h)
    rwa [ord_refl, show decide ((0 : Int) = 0) = true from rfl] at this
  have hPl := ps_len x
  have hPat := ps_at x
  obtain ⟨N, hN⟩ : ∃ N, N = sz x := ⟨_, rfl⟩
  obtain ⟨V, hV⟩ : ∃ V, V = vld 0 x := ⟨_, rfl⟩
  obtain ⟨T, hT⟩ : ∃ T, T = text x := ⟨_, rfl⟩
  obtain ⟨NM, hNM⟩ : ∃ NM, NM = isName s := ⟨_, rfl⟩
  have hna := fun W => Name_any s W
  have hrn := fun W => refName_any s (by omega) W
  rw [← hNM] at hna hrn
  have hps' : ∀ W, Below w.heap.size w W → N ≤ 262144 → Calls Tryd.prog 12 #[vx] W fun e w' => ∃ A ca, e = .returned (.slice A N ca) ∧ TRow w' (fun b => Lo W b ∨ W.heap.size ≤ b ∧ b < w'.heap.size) (ps x) A ∧ Below W.heap.size W w' := by
    intro W h h2
    rw [hN]
    exact hps W h (by omega)
  have hrp' : ∀ W, Below w.heap.size w W → N ≤ 262144 → Calls Tryd.prog 13 #[vx] W fun e w' => ∃ A ca, e = .returned (.slice A N ca) ∧ TRow w' (Lo w') (ps x) A ∧ Below W.heap.size W w' := by
    intro W h h2
    refine (hrp W h (by omega)).mono ?_
    rintro _ w1 ⟨u, rfl, ho, hb⟩
    obtain ⟨A, ca, rfl⟩ := ho.form
    refine ⟨A, ca, by rw [hPl, hN], ho.row (fun b h => Nat.lt_of_lt_of_le h hb.size) (fun b h => (ho.lt b h).2), hb⟩
  rw [← hN] at hlx hvl hsz hrs htt hsx hPl hPat
  rw [← hV] at hrv hvl
  rw [← hT] at htt hrt
  obtain ⟨P, hP⟩ : ∃ P, P = ps x := ⟨_, rfl⟩
  rw [← hP] at hps' hrp' hPl
  have hPat' : ∀ i (h : i < P.length), i + sz P[i] ≤ N := by subst hP; exact fun i h => (hPat i h).1
  have hlN : ∀ k s n l, x = .mk k s n l → l.length + 1 ≤ N := by
    rintro k s n l rfl
    rw [hN, sz]
    have := szs_len l
    omega
  clear hps hrp hPat hN hV hT hNM hP htx
  obtain ⟨k1, s1, n1, l1⟩ := x
  obtain ⟨A1, ca1, rfl, -, -⟩ := rep_mk.1 rx
  have HROW : Hid (∀ W, Below w.heap.size w W → TRow W (Lo W) l1 A1) := by
    intro W h
    obtain ⟨A', c', hv, -, hr⟩ := rep_mk.1 (HX.out W h)
    injection hv with hv
    simp at hv
    rw [hv.1]; exact hr
  have hl1 : l1.length ≤ 1000000 → True := fun _ => trivial
  have hll1 : l1.length + 1 ≤ bk (.mk k1 s1 n1 l1) := by have := bks_len l1; rw [bk]; omega
  have hNl : l1.length + 1 ≤ N + bk (.mk k1 s1 n1 l1) := by omega
  have HRN : Hid (∀ W, Below w.heap.size w W → l1.length ≤ 900000 → Calls Tryd.prog 16 #[.agg #[.int .i64 k1, .string ⟨⟨s1⟩⟩, .int .i64 n1, .slice A1 l1.length ca1]] W fun e w' => NamesPost k1 l1 W e w') := fun W h h2 => refNames_any k1 s1 n1 l1 A1 ca1 (Lo W) W (HROW.out W h) (fun _ h => h) h2
  obtain ⟨z, hz⟩ : ∃ z, z = w.heap.size := ⟨_, rfl⟩
  obtain ⟨W2, hW2⟩ : ∃ W2, W2 = (w.alloc (.cells #[.int .i64 k1, .string ⟨⟨s1⟩⟩, .int .i64 n1, .slice A1 l1.length ca1] 25)) := ⟨_, rfl⟩
  have hB2 : Below w.heap.size w W2 := by rw [hW2]; exact (Below.refl _ _).alloc (Nat.le_refl _) _
  have hs2 : W2.heap.size = z + 1 := by rw [hW2, hz]; simp
  have hg0 : W2.heap[z]? = some (.cells #[.int .i64 k1, .string ⟨⟨s1⟩⟩, .int .i64 n1, .slice A1 l1.length ca1] 25 (0, 0)) := by
    rw [hW2, hz]; exact heap_alloc_new w _
  have HC : Hid (∀ W, Below W2.heap.size W2 W → Below w.heap.size w W ∧ (W.cell? ⟨z, 0, none⟩ = some (.int .i64 k1) ∧ W.cell? ⟨z, 1, none⟩ = some (.string ⟨⟨s1⟩⟩) ∧ W.cell? ⟨z, 2, none⟩ = some (.int .i64 n1) ∧ W.cell? ⟨z, 3, none⟩ = some (.slice A1 l1.length ca1))) := fun W h =>
    ⟨hB2.trans (h.mono hB2.size), cell4 ((h.block z (by omega)).trans hg0)⟩
  have HWK := Lib.hid (works_any W2 (htab.up hB2))
  have HTAB : Hid (∀ W, Below w.heap.size w W → TabB W.heap.size W) := fun W h => htab.up h
  have HLX := Lib.hid hlx
  have HPS := Lib.hid hps'
  have HRP := Lib.hid hrp'
  have HRV := Lib.hid hrv
  have HVL := Lib.hid hvl
  have HSZ := Lib.hid hsz
  have HRS := Lib.hid hrs
  have HTT := Lib.hid htt
  have HRT := Lib.hid hrt
  have HNA := Lib.hid hna
  have HRNA := Lib.hid hrn
  have HPAT := Lib.hid hPat'
  have HPL := Lib.hid hPl
  have HW2 := Lib.hid hW2
  have HZ := Lib.hid hz
  have HBKX := Lib.hid hkx
  have HLL1 := Lib.hid (hlN k1 s1 n1 l1 rfl)
  clear hlN
  have hl900 : l1.length ≤ 900000 ∨ True := .inr trivial
  clear rx htab hlx hps' hrp' hrv hvl hsz hrs htt hrt hna hrn hW2 hz hB2 hs2 hg0 hPat' hPl hl1 hll1 hNl hl900 hkx
  go_enter Tryd.func3, Tryd.ntmps3
  go_wp2_with fail
  rw [← HW2.out]
  refine HWK.out.mono ?_
  rintro _ w3 ⟨rfl, b3⟩
  have HB3 := Lib.hid b3
  obtain ⟨hb, c0, c1, c2, c3⟩ := HC.out w3 b3
  have HL1 := Lib.hid (HLX.out w3 hb)
  clear b3 hb HWK
  obtain ⟨B1, hB1⟩ : ∃ B1, B1 = decide (200 < N) := ⟨_, rfl⟩
  rw [← hB1] at HL1
  have HB1Q := Lib.hid hB1
  clear hB1
  rw [← HZ.out]
  go_wp2_with fail
  refine HL1.out.mono ?_
  rintro _ w4 ⟨rfl, b4⟩
  have HB4 : Hid (Below W2.heap.size W2 w4) := HB3.out.trans (b4.mono HB3.out.size)
  clear c0 c1 c2 c3 HL1 b4 HB3
  obtain ⟨hb, c0, c1, c2, c3⟩ := HC.out w4 HB4.out
  have HBW4 := Lib.hid hb
  clear hb
  cases B1
  case true =>
    go_wp2
    go_ret
    exact ⟨rfl, HBW4.out⟩
  have hN200 : N ≤ 200 := by have := HB1Q.out; simpa using this
  have hNsz : Hid (sz (.mk k1 s1 n1 l1) = N ∨ True) := .inr trivial
  clear HB1Q hNsz
  have HP := Lib.hid (HPS.out w4 HBW4.out (by omega))
  go_wp2_with fail
  refine HP.out.mono ?_
  rintro _ w5 ⟨Ap, cp, rfl, hrow5, b5⟩
  have HB5 : Hid (Below W2.heap.size W2 w5) := HB4.out.trans (b5.mono HB4.out.size)
  have HR5 := Lib.hid (trow_lo hrow5 b5.size)
  clear c0 c1 c2 c3 hrow5 b5 HP HB4 HBW4
  obtain ⟨hb, c0, c1, c2, c3⟩ := HC.out w5 HB5.out
  have HQ := Lib.hid (HRP.out w5 hb (by omega))
  clear hb
  go_wp2_with fail
  refine HQ.out.mono ?_
  rintro _ w6 ⟨Aq, cq, rfl, hrow6, b6⟩
  have HB6 : Hid (Below W2.heap.size W2 w6) := HB5.out.trans (b6.mono HB5.out.size)
  have HRp : Hid (TRow w6 (Lo w6) P Ap) := HR5.out.lo b6
  have HRq := Lib.hid hrow6
  clear c0 c1 c2 c3 hrow6 b6 HQ HB5 HR5
  go_wp2
  go_loopw [9] (fun iv wr => ∃ i : Nat, i ≤ N ∧ iv = .int .i64 (i : Nat) ∧ Hid (Below W2.heap.size W2 wr) ∧ Hid (Below w6.heap.size w6 wr)) (fun iv _ => N - (intOf iv).toNat)
  case atStart => exact ⟨0, by omega, rfl, HB6, Below.refl _ _⟩
  case round =>
    obtain ⟨i, hi, rfl, HB, HBr⟩ := hrel
    by_cases hlt : i < N
    · have hltP : i < P.length := by have := HPL.out; omega
      have hil : (i : Int) < (N : Int) := by omega
      obtain ⟨b, o, k, s2, m, q, B, cb, rfl, hSb, hx, d0, d1, d2, d3, hrep⟩ := trow_get HRp.out HBr.out (fun _ h => h) hltP
      obtain ⟨b', o', k', s', m', q', B', cb', rfl, hSb', hx', e0, e1, e2, e3, hrep'⟩ := trow_get HRq.out HBr.out (fun _ h => h) hltP
      rw [hx] at hx'
      injection hx' with j1 j2 j3 j4
      subst j1 j2 j3 j4
      have hat := HPAT.out i hltP
      rw [hx] at hat
      have cS : ∀ d os, Calls Tryd.prog 14 #[.agg #[.int .i64 k, .string ⟨⟨s2⟩⟩, .int .i64 m, .slice B q.length cb], .agg #[.int .i64 k, .string ⟨⟨s2⟩⟩, .int .i64 m, .slice B' q.length cb']] (Go.Sort.grow (redrawn wr d) os) fun e w'' => e = .returned (.bool true) ∧ ∃ p : Regrown, w'' = Go.Sort.grow (redrawn wr p.d) p.os := fun d os =>
        Calls.regrown_of (HSAME.out _ _ _ _ (by omega) (rep_keep (fun b hb => Nat.lt_of_lt_of_le hb (Nat.le_trans HBr.out.size (below_regrown wr d os).size)) (fun b o hb => (below_regrown wr d os).cell (p := ⟨b, o, none⟩) (Nat.lt_of_lt_of_le hb HBr.out.size)) _ _ hrep) (rep_keep (fun b hb => Nat.lt_of_lt_of_le hb (Nat.le_trans HBr.out.size (below_regrown wr d os).size)) (fun b o hb => (below_regrown wr d os).cell (p := ⟨b, o, none⟩) (Nat.lt_of_lt_of_le hb HBr.out.size)) _ _ hrep'))
      have i0 := fun d os => cell_regrown d0 d os
      have i1 := fun d os => cell_regrown d1 d os
      have i2 := fun d os => cell_regrown d2 d os
      have i3 := fun d os => cell_regrown d3 d os
      have j0 := fun d os => cell_regrown e0 d os
      have j1 := fun d os => cell_regrown e1 d os
      have j2 := fun d os => cell_regrown e2 d os
      have j3 := fun d os => cell_regrown e3 d os
      clear hrep hrep' hx hat
      go_wp2_with fail
      refine wp_region_quiet_below (by kernel_rfl) (by kernel_rfl) ?_
      repeat (quiet_step (with_reducible exact cS _ _))
      refine wpQuiet_nil ?_
      intro _ hw'
      obtain ⟨⟨dq, osq⟩, hw''⟩ := hw'
      subst hw''
      have b7 := below_regrown wr dq osq
      clear i0 i1 i2 i3 j0 j1 j2 j3 cS
      generalize Go.Sort.grow (redrawn wr dq) osq = w7 at *
      have HB7 : Hid (Below W2.heap.size W2 w7) := HB.out.trans (b7.mono HB.out.size)
      have HBr7 : Hid (Below w6.heap.size w6 w7) := HBr.out.trans (b7.mono HBr.out.size)
      clear b7 d0 d1 d2 d3 e0 e1 e2 e3
      go_wp2
      go_roundw
      case rel => exact ⟨i + 1, by omega, by go_num, HB7, HBr7⟩
      case measure => simp [intOf]; omega
    · have hil : ¬ (i : Int) < (N : Int) := by omega
      obtain ⟨hbw, c0, c1, c2, c3⟩ := HC.out wr HB.out
      have HBW := Lib.hid hbw
      clear hbw HRp HRq HBr
      by_cases hY : k1 = 3 ∧ l1.all (fun p => decide (p.k = 0)) = true
      · obtain ⟨hk3, hall⟩ := hY
        subst hk3
        have hNY := NamesY_any s1 n1 l1 A1 ca1 (Lo wr) wr (HROW.out wr HBW.out) (fun _ h => h) (by have := HLL1.out; omega) hall
        have HNY := Lib.hid hNY
        have HALL := Lib.hid hall
        have hM9' : l1.length ≤ 900000 := by have := HLL1.out; omega
        clear hNY hall
        go_wp2_with fail
        refine HNY.out.mono ?_
        rintro _ w8 ⟨u8, rfl, ⟨g8, rfl, -, hc8⟩, b8⟩
        have HB8 : Hid (Below W2.heap.size W2 w8) := HB.out.trans (b8.mono HB.out.size)
        have HC8 := Lib.hid hc8
        clear c0 c1 c2 c3 b8 hc8 HNY HBW HB
        obtain ⟨hbw, c0, c1, c2, c3⟩ := HC.out w8 HB8.out
        have HRN8 := Lib.hid (HRN.out w8 hbw hM9')
        clear hbw
        go_wp2_with fail
        refine HRN8.out.mono ?_
        rintro _ w9 ⟨u9, bo, rfl, b9, hcase⟩
        have hos : bo = true ∧ OwnStr w9 w8.heap.size u9 (l1.map Tm.s) := by
          rcases hcase with ⟨h1, -, h3⟩ | ⟨-, -, h3⟩
          · exact ⟨h1, h3⟩
          · exact absurd ⟨rfl, HALL.out⟩ h3
        obtain ⟨rfl, hos⟩ := hos
        obtain ⟨A9, c9, rfl, hcell9⟩ := hos.form
        simp only [List.length_map]
        have HB9 : Hid (Below W2.heap.size W2 w9) := HB8.out.trans (b9.mono HB8.out.size)
        have hc9 := (b9.block g8 (Array.getElem?_eq_some_iff.1 HC8.out).1).trans HC8.out
        have HC9 := Lib.hid hc9
        have HCELL9 := Lib.hid hcell9
        clear c0 c1 c2 c3 b9 hcase hos hc9 hcell9 HRN8 HC8 HB8
        go_wp2
        go_loopw [15] (fun iv wr => ∃ i : Nat, i ≤ l1.length ∧ iv = .int .i64 (i : Nat) ∧ Hid (Below W2.heap.size W2 wr) ∧ Hid (Below w9.heap.size w9 wr)) (fun iv _ => l1.length - (intOf iv).toNat)
        case atStart => exact ⟨0, by omega, rfl, HB9, Below.refl _ _⟩
        case round =>
          obtain ⟨j, hj, rfl, HB, HBr⟩ := hrel
          by_cases hjt : j < l1.length
          · have hjl : (j : Int) < (l1.length : Int) := by omega
            have hjL : j < l1.length := hjt
            have hjL2 : j < (l1.map Tm.s).length := by rw [List.length_map]; exact hjL
            obtain ⟨sj, hsj⟩ : ∃ sj, sj = (l1.map Tm.s)[j] := ⟨_, rfl⟩
            have d1 : wr.cell? ⟨g8, j, none⟩ = some (.string ⟨⟨sj⟩⟩) := by
              rw [cell_of_row _ _ _ _ _ _ ((HBr.out.block g8 (Array.getElem?_eq_some_iff.1 HC9.out).1).trans HC9.out), hsj]
              simp [List.getElem?_eq_getElem hjL]
            obtain ⟨g9, rfl, hcj⟩ := HCELL9.out j hjL2
            have d2 := (HBr.out.cell (p := ⟨g9, j, none⟩) (block_lt_of_cell hcj)).trans hcj
            rw [← hsj] at d2
            have e1 := fun d os => cell_regrown d1 d os
            have e2 := fun d os => cell_regrown d2 d os
            clear hsj hcj hjL hjL2
            go_wp2_with fail
            refine wp_region_quiet_below (by kernel_rfl) (by kernel_rfl) ?_
            repeat (quiet_step (fail))
            refine wpQuiet_nil ?_
            intro _ hw'
            obtain ⟨⟨dq, osq⟩, hw''⟩ := hw'
            subst hw''
            have b7 := below_regrown wr dq osq
            clear e1 e2
            generalize Go.Sort.grow (redrawn wr dq) osq = w7 at *
            have HB7 : Hid (Below W2.heap.size W2 w7) := HB.out.trans (b7.mono HB.out.size)
            have HBr7 : Hid (Below w9.heap.size w9 w7) := HBr.out.trans (b7.mono HBr.out.size)
            clear b7 d1 d2
            go_wp2
            go_roundw
            case rel => exact ⟨j + 1, by omega, by go_num, HB7, HBr7⟩
            case measure => simp [intOf]; omega
          · have hjl : ¬ (j : Int) < (l1.length : Int) := by omega
            have HBL := HB
            clear HBr
            obtain ⟨hbw, c0, c1, c2, c3⟩ := HC.out wr HBL.out
            have HV0 := Lib.hid (HRV.out wr hbw)
            clear hbw
            go_wp2_with fail
            refine HV0.out.mono ?_
            rintro _ wv ⟨rfl, bv⟩
            have HBv : Hid (Below W2.heap.size W2 wv) := HBL.out.trans (bv.mono HBL.out.size)
            clear c0 c1 c2 c3 bv HV0 HBL
            obtain ⟨hbw, c0, c1, c2, c3⟩ := HC.out wv HBv.out
            have HBWv := Lib.hid hbw
            clear hbw
            have cVL : ∀ d os, Calls Tryd.prog 18 #[.agg #[.int .i64 3, .string ⟨⟨s1⟩⟩, .int .i64 n1, .slice A1 l1.length ca1]] (Go.Sort.grow (redrawn wv d) os) fun e w'' => e = .returned (.bool V) ∧ ∃ p : Regrown, w'' = Go.Sort.grow (redrawn wv p.d) p.os := fun d os => Calls.regrown_of (HVL.out _ (HBWv.out.trans ((below_regrown wv d os).mono HBWv.out.size)) (by omega))
            have cTT : ∀ d os, Calls Tryd.prog 19 #[.agg #[.int .i64 3, .string ⟨⟨s1⟩⟩, .int .i64 n1, .slice A1 l1.length ca1]] (Go.Sort.grow (redrawn wv d) os) fun e w'' => e = .returned (.string ⟨⟨T⟩⟩) ∧ ∃ p : Regrown, w'' = Go.Sort.grow (redrawn wv p.d) p.os := fun d os => Calls.regrown_of (HTT.out _ (HBWv.out.trans ((below_regrown wv d os).mono HBWv.out.size)) (by omega) (HTAB.out _ (HBWv.out.trans ((below_regrown wv d os).mono HBWv.out.size))))
            have cRT : ∀ d os, Calls Tryd.prog 20 #[.agg #[.int .i64 3, .string ⟨⟨s1⟩⟩, .int .i64 n1, .slice A1 l1.length ca1]] (Go.Sort.grow (redrawn wv d) os) fun e w'' => e = .returned (.string ⟨⟨T⟩⟩) ∧ ∃ p : Regrown, w'' = Go.Sort.grow (redrawn wv p.d) p.os := fun d os => Calls.regrown_of (HRT.out _ (HBWv.out.trans ((below_regrown wv d os).mono HBWv.out.size)))
            have cSZ : ∀ d os, Calls Tryd.prog 21 #[.agg #[.int .i64 3, .string ⟨⟨s1⟩⟩, .int .i64 n1, .slice A1 l1.length ca1]] (Go.Sort.grow (redrawn wv d) os) fun e w'' => e = .returned (.int .i64 (N : Nat)) ∧ ∃ p : Regrown, w'' = Go.Sort.grow (redrawn wv p.d) p.os := fun d os => Calls.regrown_of (HSZ.out _ (HBWv.out.trans ((below_regrown wv d os).mono HBWv.out.size)) (by omega))
            have cRS : ∀ d os, Calls Tryd.prog 22 #[.agg #[.int .i64 3, .string ⟨⟨s1⟩⟩, .int .i64 n1, .slice A1 l1.length ca1]] (Go.Sort.grow (redrawn wv d) os) fun e w'' => e = .returned (.int .i64 (N : Nat)) ∧ ∃ p : Regrown, w'' = Go.Sort.grow (redrawn wv p.d) p.os := fun d os => Calls.regrown_of (HRS.out _ (HBWv.out.trans ((below_regrown wv d os).mono HBWv.out.size)))
            have cNA : ∀ d os, Calls Tryd.prog 23 #[.string ⟨⟨s⟩⟩] (Go.Sort.grow (redrawn wv d) os) fun e w'' => e = .returned (.bool NM) ∧ ∃ p : Regrown, w'' = Go.Sort.grow (redrawn wv p.d) p.os := fun d os => Calls.regrown_of ((HNA.out _).mono fun e w' h => ⟨h.1, h.2 ▸ Below.refl _ _⟩)
            have cRN : ∀ d os, Calls Tryd.prog 24 #[.string ⟨⟨s⟩⟩] (Go.Sort.grow (redrawn wv d) os) fun e w'' => e = .returned (.bool NM) ∧ ∃ p : Regrown, w'' = Go.Sort.grow (redrawn wv p.d) p.os := fun d os => Calls.regrown_of ((HRNA.out _).mono fun e w' h => ⟨h.1, h.2 ▸ Below.refl _ _⟩)
            have i0 := fun d os => cell_regrown c0 d os
            have i1 := fun d os => cell_regrown c1 d os
            have i2 := fun d os => cell_regrown c2 d os
            have i3 := fun d os => cell_regrown c3 d os
            have hVV : (V == V) = true := by simp
            have hTT : (T == T) = true := by simp
            have hNN : (NM == NM) = true := by simp
            go_wp2_with fail
            refine wp_region_quiet_below (by kernel_rfl) (by kernel_rfl) ?_
            repeat (quiet_step (first | with_reducible exact cVL _ _ | with_reducible exact cTT _ _ | with_reducible exact cRT _ _ | with_reducible exact cSZ _ _ | with_reducible exact cRS _ _ | with_reducible exact cNA _ _ | with_reducible exact cRN _ _))
            refine wpQuiet_nil ?_
            intro _ hw'
            obtain ⟨⟨dq, osq⟩, hw''⟩ := hw'
            subst hw''
            have b7 := below_regrown wv dq osq
            have HE : Hid (Below w.heap.size w (Go.Sort.grow (redrawn wv dq) osq)) := HBWv.out.trans (b7.mono HBWv.out.size)
            clear b7 i0 i1 i2 i3 cVL cTT cRT cSZ cRS cNA cRN
            go_wp2
            go_ret
            exact ⟨rfl, HE.out⟩
      · have hM9' : l1.length ≤ 900000 := by have := HLL1.out; omega
        have hNN0 := NamesN_any k1 s1 n1 l1 A1 ca1 (Lo wr) wr (HROW.out wr HBW.out) (fun _ h => h) (by have := HLL1.out; omega) hY
        have HNN := Lib.hid hNN0
        have HNY := Lib.hid hY
        clear hNN0 hY
        go_wp2_with fail
        refine HNN.out.mono ?_
        rintro _ w8 ⟨rfl, b8⟩
        have HB8 : Hid (Below W2.heap.size W2 w8) := HB.out.trans (b8.mono HB.out.size)
        clear c0 c1 c2 c3 b8 HNN HBW HB
        obtain ⟨hbw, c0, c1, c2, c3⟩ := HC.out w8 HB8.out
        have HRN8 := Lib.hid (HRN.out w8 hbw hM9')
        clear hbw
        go_wp2_with fail
        refine HRN8.out.mono ?_
        rintro _ w9 ⟨u9, bo, rfl, b9, hcase⟩
        have hos : bo = false ∧ u9 = .slice none 0 0 := by
          rcases hcase with ⟨-, h2, -⟩ | ⟨h1, h2, -⟩
          · exact absurd h2 HNY.out
          · exact ⟨h1, h2⟩
        obtain ⟨rfl, rfl⟩ := hos
        have HB9 : Hid (Below W2.heap.size W2 w9) := HB8.out.trans (b9.mono HB8.out.size)
        clear c0 c1 c2 c3 b9 hcase HRN8 HB8
        go_wp2
        go_loopw [15] (fun iv wr => iv = .int .i64 0 ∧ Hid (Below W2.heap.size W2 wr)) (fun _ _ => 0)
        case atStart => exact ⟨rfl, HB9⟩
        case round =>
          obtain ⟨rfl, HBL⟩ := hrel
          obtain ⟨hbw, c0, c1, c2, c3⟩ := HC.out wr HBL.out
          have HV0 := Lib.hid (HRV.out wr hbw)
          clear hbw
          go_wp2_with fail
          refine HV0.out.mono ?_
          rintro _ wv ⟨rfl, bv⟩
          have HBv : Hid (Below W2.heap.size W2 wv) := HBL.out.trans (bv.mono HBL.out.size)
          clear c0 c1 c2 c3 bv HV0 HBL
          obtain ⟨hbw, c0, c1, c2, c3⟩ := HC.out wv HBv.out
          have HBWv := Lib.hid hbw
          clear hbw
          have cVL : ∀ d os, Calls Tryd.prog 18 #[.agg #[.int .i64 k1, .string ⟨⟨s1⟩⟩, .int .i64 n1, .slice A1 l1.length ca1]] (Go.Sort.grow (redrawn wv d) os) fun e w'' => e = .returned (.bool V) ∧ ∃ p : Regrown, w'' = Go.Sort.grow (redrawn wv p.d) p.os := fun d os => Calls.regrown_of (HVL.out _ (HBWv.out.trans ((below_regrown wv d os).mono HBWv.out.size)) (by omega))
          have cTT : ∀ d os, Calls Tryd.prog 19 #[.agg #[.int .i64 k1, .string ⟨⟨s1⟩⟩, .int .i64 n1, .slice A1 l1.length ca1]] (Go.Sort.grow (redrawn wv d) os) fun e w'' => e = .returned (.string ⟨⟨T⟩⟩) ∧ ∃ p : Regrown, w'' = Go.Sort.grow (redrawn wv p.d) p.os := fun d os => Calls.regrown_of (HTT.out _ (HBWv.out.trans ((below_regrown wv d os).mono HBWv.out.size)) (by omega) (HTAB.out _ (HBWv.out.trans ((below_regrown wv d os).mono HBWv.out.size))))
          have cRT : ∀ d os, Calls Tryd.prog 20 #[.agg #[.int .i64 k1, .string ⟨⟨s1⟩⟩, .int .i64 n1, .slice A1 l1.length ca1]] (Go.Sort.grow (redrawn wv d) os) fun e w'' => e = .returned (.string ⟨⟨T⟩⟩) ∧ ∃ p : Regrown, w'' = Go.Sort.grow (redrawn wv p.d) p.os := fun d os => Calls.regrown_of (HRT.out _ (HBWv.out.trans ((below_regrown wv d os).mono HBWv.out.size)))
          have cSZ : ∀ d os, Calls Tryd.prog 21 #[.agg #[.int .i64 k1, .string ⟨⟨s1⟩⟩, .int .i64 n1, .slice A1 l1.length ca1]] (Go.Sort.grow (redrawn wv d) os) fun e w'' => e = .returned (.int .i64 (N : Nat)) ∧ ∃ p : Regrown, w'' = Go.Sort.grow (redrawn wv p.d) p.os := fun d os => Calls.regrown_of (HSZ.out _ (HBWv.out.trans ((below_regrown wv d os).mono HBWv.out.size)) (by omega))
          have cRS : ∀ d os, Calls Tryd.prog 22 #[.agg #[.int .i64 k1, .string ⟨⟨s1⟩⟩, .int .i64 n1, .slice A1 l1.length ca1]] (Go.Sort.grow (redrawn wv d) os) fun e w'' => e = .returned (.int .i64 (N : Nat)) ∧ ∃ p : Regrown, w'' = Go.Sort.grow (redrawn wv p.d) p.os := fun d os => Calls.regrown_of (HRS.out _ (HBWv.out.trans ((below_regrown wv d os).mono HBWv.out.size)))
          have cNA : ∀ d os, Calls Tryd.prog 23 #[.string ⟨⟨s⟩⟩] (Go.Sort.grow (redrawn wv d) os) fun e w'' => e = .returned (.bool NM) ∧ ∃ p : Regrown, w'' = Go.Sort.grow (redrawn wv p.d) p.os := fun d os => Calls.regrown_of ((HNA.out _).mono fun e w' h => ⟨h.1, h.2 ▸ Below.refl _ _⟩)
          have cRN : ∀ d os, Calls Tryd.prog 24 #[.string ⟨⟨s⟩⟩] (Go.Sort.grow (redrawn wv d) os) fun e w'' => e = .returned (.bool NM) ∧ ∃ p : Regrown, w'' = Go.Sort.grow (redrawn wv p.d) p.os := fun d os => Calls.regrown_of ((HRNA.out _).mono fun e w' h => ⟨h.1, h.2 ▸ Below.refl _ _⟩)
          have i0 := fun d os => cell_regrown c0 d os
          have i1 := fun d os => cell_regrown c1 d os
          have i2 := fun d os => cell_regrown c2 d os
          have i3 := fun d os => cell_regrown c3 d os
          have hVV : (V == V) = true := by simp
          have hTT : (T == T) = true := by simp
          have hNN : (NM == NM) = true := by simp
          go_wp2_with fail
          refine wp_region_quiet_below (by kernel_rfl) (by kernel_rfl) ?_
          repeat (quiet_step (first | with_reducible exact cVL _ _ | with_reducible exact cTT _ _ | with_reducible exact cRT _ _ | with_reducible exact cSZ _ _ | with_reducible exact cRS _ _ | with_reducible exact cNA _ _ | with_reducible exact cRN _ _))
          refine wpQuiet_nil ?_
          intro _ hw'
          obtain ⟨⟨dq, osq⟩, hw''⟩ := hw'
          subst hw''
          have b7 := below_regrown wv dq osq
          have HE : Hid (Below w.heap.size w (Go.Sort.grow (redrawn wv dq) osq)) := HBWv.out.trans (b7.mono HBWv.out.size)
          clear b7 i0 i1 i2 i3 cVL cTT cRT cSZ cRS cNA cRN
          go_wp2
          go_ret
          exact ⟨rfl, HE.out⟩
end Go.Proofs.YtfhcfaflggiacaaDoor
