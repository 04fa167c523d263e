/- The law PolicyFull, walked. (Laid with NS=1; written by wip/tools/gen/pot.py.) -/
import Derived.Test.YtehmfkcihieecaaPoW13
import Derived.Test.YtehmfkcihieecaaPoL4p
import Derived.Laws.Cover1
import Derived.Laws.Small
namespace Go.Proofs.Ytehmfkcihieecaa.Po
open Go.RowKit Go.Sort
open Te Te.Tt
open Go (Lit DataW MemPlace keyOf maxLen)

theorem full_c {σ : Sto} {D i k : Nat} (hk : k = 100) (h : Inv σ D k) (h1 : 100 ≤ i) (h2 : i < 110) : add σ k (pn D i) = (σ, k) ∧ ((addE σ k (pn D i) = 53 ∧ (σ (nmk (key D i))).isSome = false) ∨ (addE σ k (pn D i) = 41 ∧ (σ (nmk (key D i))).isSome = true)) := by
  subst hk
  exact full_b h h1 h2
theorem one_sorted {V w : World} {g bm : Nat} {σ : Sto} {k : Nat} (h : One V (fun _ => False) g bm σ k w) (hk : k ≤ 1000000) :
    Calls Try.prog 23 #[.pointer (some ⟨g, 0, none⟩)] w fun e w8 => ∃ (LS : List Nm) (A8 : Option Addr) (c8 : Nat), e = .returned (.slice A8 k c8) ∧ LS.length = k ∧ (∀ j (h : j + 1 < LS.length), Op.bytesLess LS[j] LS[j + 1] = true) ∧ (∀ W, RowKit.Below w8.heap.size w8 W → LS = [] ∨ ∃ b o, A8 = some ⟨b, o, none⟩ ∧ ∀ i (h : i < LS.length), W.cell? ⟨b, o + i, none⟩ = some (.string ⟨⟨LS[i]⟩⟩)) ∧ RowKit.Below V.heap.size V w8 :=
  (one_names h hk).mono fun e w8 hp => by
    obtain ⟨v, ss, rfl, hov, hnd, hlen, -, hlo, b8⟩ := hp
    have hll : (ss.mergeSort (fun x y => decide (x ≤ y))).length = k := by rw [List.length_mergeSort]; exact hlen
    obtain ⟨A8, c8, rfl, -, hrd⟩ := hov.form
    exact ⟨_, A8, c8, by rw [hll], hll, fun j h => sorted_lt hnd j h, fun W hW => hrd.imp id (fun ⟨b, o, h1, _, h3⟩ => ⟨b, o, h1, fun i hi => (hW.cell (p := ⟨b, o + i, none⟩) (World.block_lt_of_cell? _ _ (h3 i hi))).trans (h3 i hi)⟩), h.bel.trans (b8.mono h.bel.size)⟩
set_option maxHeartbeats 16000000 in
set_option maxRecDepth 100000 in
theorem policyFull_walk (nn od : Int) (V : World) : Calls Try.prog 6 #[.int .i64 nn, .int .i64 od] V fun e w' => e = .returned (.bool true) ∧ RowKit.Below V.heap.size V w' := by
  have HWK := Lib.hid (works_any V)
  go_enter Try.func6, Try.ntmps6
  go_wp2_with fail
  refine HWK.out.mono ?_
  rintro _ w1 ⟨rfl, b1⟩
  have HB1 := Lib.hid b1
  clear b1 HWK
  by_cases r1 : nn < 0
  case pos =>
    go_wp2
    go_ret
    exact ⟨rfl, HB1.out⟩
  by_cases r2 : 110 < nn
  case pos =>
    go_wp2
    go_ret
    exact ⟨rfl, HB1.out⟩
  by_cases r3 : od < 0
  case pos =>
    go_wp2
    go_ret
    exact ⟨rfl, HB1.out⟩
  by_cases r4 : 200 < od
  case pos =>
    go_wp2
    go_ret
    exact ⟨rfl, HB1.out⟩
  obtain ⟨N, hN⟩ : ∃ N : Nat, nn = (N : Int) := ⟨nn.toNat, by omega⟩
  obtain ⟨D, hD⟩ : ∃ D : Nat, od = (D : Int) := ⟨od.toNat, by omega⟩
  subst hN hD
  have hN110 : N ≤ 110 := by omega
  have hD200 : D ≤ 200 := by omega
  go_wp2_with fail
  refine (one_new V w1 HB1.out).mono ?_
  rintro _ w3 ⟨g, bm, rfl, h3, -⟩
  have HO3 := Lib.hid h3
  clear h3 HB1
  go_wp2_with fail
  go_loopw [7, 8, 9, 10, 11, 12] (fun av iv _ _ _ _ wr => ∃ i k : Nat, i ≤ N ∧ k = min i 100 ∧ av = .int .i64 (k : Nat) ∧ iv = .int .i64 (i : Nat) ∧ Hid (∃ σ, One V (fun _ => False) g bm σ k wr ∧ Inv σ D k)) (fun _ iv _ _ _ _ _ => N - (intOf iv).toNat)
  case atStart => exact ⟨0, 0, by omega, by omega, rfl, rfl, Lib.hid ⟨_, HO3.out, inv_start D⟩⟩
  case round =>
    obtain ⟨i, k, hi, hk, rfl, rfl, HI⟩ := hrel
    clear HO3
    obtain ⟨σ, hone, hinv⟩ := HI.out
    have HO := Lib.hid hone
    have HIV := Lib.hid hinv
    have HKK := Lib.hid hk
    clear HI hone hinv hk
    by_cases hlt : i < N
    · have hil : (i : Int) < (N : Int) := by omega
      obtain ⟨K, hK⟩ : ∃ K, K = key D i := ⟨_, rfl⟩
      have hri : ((i : Int) * 37 + (D : Int)).tmod 101 = (K : Int) := by rw [hK]; unfold key; exact (by rfl : _ = _)
      have hK100 : K ≤ 100 := by rw [hK]; exact key_le D i
      have HDG := Lib.hid (refDigitsP_any K hK100 wr)
      have hlen : (Lib.decDigits K).length ≤ 20 := dig_len hK100
      have HKE := Lib.hid hK
      clear hK
      have hs1 : ¬ 9223372036854775807 < [(112 : UInt8)].length + (Lib.decDigits K).length := by simp; omega
      obtain ⟨M, hM⟩ : ∃ M, M = nmk (key D i) := ⟨_, rfl⟩
      have hap : (ByteArray.mk #[112]) ++ ByteArray.mk (Array.mk (Lib.decDigits K)) = ⟨⟨M⟩⟩ := by
        apply ByteArray.ext
        rw [ByteArray.data_append]
        apply Array.toList_inj.1
        rw [hM, ← HKE.out]
        simp [nmk]
      have hMl : M.length ≤ maxLen := by rw [hM]; have := (nmk_ok (key_le D i)).2; unfold maxLen; omega
      have HM := Lib.hid hM
      have HML := Lib.hid hMl
      clear hM hMl
      go_wp2_with fail
      refine HDG.out.mono ?_
      rintro _ w4 ⟨rfl, b4⟩
      have HO4 := Lib.hid (HO.out.read b4 (K' := fun _ => False) (fun i h => h.elim))
      clear b4 HDG HO
      by_cases h100 : i < 100
      case pos =>
        obtain rfl : k = i := by have := HKK.out; omega
        obtain ⟨f1, f2, f3, f4⟩ := full_a HIV.out h100
        have ha := one_add HO4.out (pn D k) (fun _ => False) _ (pv_nil w4 _ (nmk (key D k)) 1) (fun _ h => h.elim) (Nat.zero_le _) (Nat.zero_le _) (Nat.zero_le _) (by have := (nmk_ok (key_le D k)).2; show (nmk (key D k)).length ≤ maxLen; unfold maxLen; omega) (by unfold maxLen; omega)
        rw [f1, f2, ← HM.out] at ha
        rw [← HM.out] at f3 f4
        have HAD := Lib.hid ha
        have F3 := Lib.hid f3
        have F4 := Lib.hid f4
        clear ha f1 f2 f3 f4 HIV
        generalize up σ M (pn D k) = τ at *
        have i1 : (k : Int) < 100 := by omega
        go_wp2_with fail
        refine HAD.out.mono ?_
        rintro _ w5 ⟨rfl, h5, -⟩
        have HO5 : Hid (One V (fun _ => False) g bm τ (k + 1) w5) := Lib.hid h5
        clear h5 HAD HO4
        go_wp2_with fail
        have hg := one_get HO5.out M HML.out
        unfold GetPost at hg
        rw [F4.out] at hg
        have HG := Lib.hid hg
        clear hg
        refine HG.out.mono ?_
        rintro _ w6 ⟨s, rfl, ho, hl, b6⟩
        obtain ⟨A', a', C', c', G', g', rfl⟩ := ho.forms
        have HO6 := Lib.hid (HO5.out.read b6 (K' := fun _ => False) (fun i h => h.elim))
        clear ho hl b6 HG HO5
        simp only [pval, errW]
        generalize gt τ M = q at *
        have hk1 : k + 1 = min (k + 1) 100 := by omega
        have HP : Hid (∀ o, ∃ σ, One V (fun _ => False) g bm σ (k + 1) (w6.alloc o) ∧ Inv σ D (k + 1)) := fun o => ⟨τ, HO6.out.read ((RowKit.Below.refl _ _).alloc (Nat.le_refl _) _) (fun i h => h.elim), F3.out⟩
        clear HO6 F3 F4
        go_wp2
        go_roundw
        case rel => exact ⟨k + 1, k + 1, by omega, hk1, by go_num, by go_num, HP.out _⟩
        case measure => simp [intOf]; omega
      case neg =>
        have hk0 : k = 100 := by have := HKK.out; omega
        obtain ⟨f2, f5⟩ := full_c hk0 HIV.out (show 100 ≤ i by omega) (by omega)
        have ha := one_add HO4.out (pn D i) (fun _ => False) _ (pv_nil w4 _ (nmk (key D i)) 1) (fun _ h => h.elim) (Nat.zero_le _) (Nat.zero_le _) (Nat.zero_le _) (by have := (nmk_ok (key_le D i)).2; show (nmk (key D i)).length ≤ maxLen; unfold maxLen; omega) (by unfold maxLen; omega)
        rw [f2, ← HM.out] at ha
        rw [← HM.out] at f5
        have HAD := Lib.hid ha
        clear ha f2
        generalize addE σ k (pn D i) = E at *
        have i1 : ¬ (i : Int) < 100 := by omega
        have hk1 : k = min (i + 1) 100 := by omega
        clear hk0
        rcases f5 with ⟨rfl, f6⟩ | ⟨rfl, f6⟩
        · have F6 := Lib.hid f6
          clear f6
          go_wp2_with fail
          refine HAD.out.mono ?_
          rintro _ w5 ⟨rfl, h5, -⟩
          have HO5 : Hid (One V (fun _ => False) g bm σ k w5) := Lib.hid h5
          clear h5 HAD HO4
          go_wp2_with fail
          have hg := one_get HO5.out M HML.out
          unfold GetPost at hg
          rw [F6.out] at hg
          have HG := Lib.hid hg
          clear hg
          refine HG.out.mono ?_
          rintro _ w6 ⟨s, rfl, ho, hl, b6⟩
          obtain ⟨A', a', C', c', G', g', rfl⟩ := ho.forms
          have HO6 := Lib.hid (HO5.out.read b6 (K' := fun _ => False) (fun i h => h.elim))
          clear ho hl b6 HG HO5
          simp only [pval, errW]
          generalize gt σ M = q at *
          have HP : Hid (∀ o, ∃ σ, One V (fun _ => False) g bm σ k (w6.alloc o) ∧ Inv σ D k) := fun o => ⟨σ, HO6.out.read ((RowKit.Below.refl _ _).alloc (Nat.le_refl _) _) (fun i h => h.elim), HIV.out⟩
          clear HO6 HIV F6
          go_wp2
          go_roundw
          case rel => exact ⟨i + 1, k, by omega, hk1, by go_num, by go_num, HP.out _⟩
          case measure => simp [intOf]; omega
        · have F6 := Lib.hid f6
          clear f6
          go_wp2_with fail
          refine HAD.out.mono ?_
          rintro _ w5 ⟨rfl, h5, -⟩
          have HO5 : Hid (One V (fun _ => False) g bm σ k w5) := Lib.hid h5
          clear h5 HAD HO4
          go_wp2_with fail
          have hg := one_get HO5.out M HML.out
          unfold GetPost at hg
          rw [F6.out] at hg
          have HG := Lib.hid hg
          clear hg
          refine HG.out.mono ?_
          rintro _ w6 ⟨s, rfl, ho, hl, b6⟩
          obtain ⟨A', a', C', c', G', g', rfl⟩ := ho.forms
          have HO6 := Lib.hid (HO5.out.read b6 (K' := fun _ => False) (fun i h => h.elim))
          clear ho hl b6 HG HO5
          simp only [pval, errW]
          generalize gt σ M = q at *
          have HP : Hid (∀ o, ∃ σ, One V (fun _ => False) g bm σ k (w6.alloc o) ∧ Inv σ D k) := fun o => ⟨σ, HO6.out.read ((RowKit.Below.refl _ _).alloc (Nat.le_refl _) _) (fun i h => h.elim), HIV.out⟩
          clear HO6 HIV F6
          go_wp2
          go_roundw
          case rel => exact ⟨i + 1, k, by omega, hk1, by go_num, by go_num, HP.out _⟩
          case measure => simp [intOf]; omega
    · have i1 : ¬ (i : Int) < (N : Int) := by omega
      have hkn : ((k : Int) == min (N : Int) 100) = true := by
        have := HKK.out
        rw [beq_iff_eq]
        omega
      have HKN := Lib.hid hkn
      have hk1 : k ≤ 100 := by have := HKK.out; omega
      clear hkn HKK HIV
      go_wp2_with fail
      refine (one_sorted HO.out (by omega)).mono ?_
      rintro _ w8 ⟨LS, A8, c8, rfl, hll, hsl, hrd, b8⟩
      have HB8 := Lib.hid b8
      have HRD := Lib.hid hrd
      have HSL := Lib.hid hsl
      have HLL := Lib.hid hll
      clear hsl hll b8 hrd HO
      go_wp2_with fail
      go_loopw [14] (fun iv wr => ∃ i : Nat, 1 ≤ i ∧ iv = .int .i64 (i : Nat) ∧ Hid (RowKit.Below w8.heap.size w8 wr)) (fun iv _ => k - (intOf iv).toNat)
      case atStart => exact ⟨1, by omega, rfl, Lib.hid (RowKit.Below.refl _ _)⟩
      case round =>
        obtain ⟨i, hi, rfl, HB⟩ := hrel
        by_cases hlt : i < k
        · have hil : (i : Int) < (k : Int) := by omega
          obtain ⟨j, hij⟩ : ∃ j, i = j + 1 := ⟨i - 1, by omega⟩
          have hm : (i : Int) - 1 = (j : Int) := by omega
          have hjk : (j : Int) < (k : Int) := by omega
          have hjw : IntKind.i64.wrap (j : Int) = (j : Int) := IntWalk.i64_in _ (by omega)
          have hl1 : j + 1 < LS.length := by rw [HLL.out, ← hij]; exact hlt
          obtain ⟨b, o, rfl, hcb⟩ := (HRD.out wr HB.out).resolve_left (fun h => by rw [h] at hl1; simp at hl1)
          have x0 := hcb j (by omega)
          have y0 : wr.cell? ⟨b, o + i, none⟩ = some (.string ⟨⟨LS[j + 1]'hl1⟩⟩) := (by rw [hij] : wr.cell? ⟨b, o + i, none⟩ = wr.cell? ⟨b, o + (j + 1), none⟩).trans (hcb (j + 1) hl1)
          have hbl := HSL.out j hl1
          generalize LS[j]'_ = x at x0 hbl
          generalize LS[j + 1]'_ = y at y0 hbl
          have HIJ := Lib.hid hij
          clear hcb hl1 hij
          have j0 := fun d os => cell_regrown x0 d os
          have j1 := fun d os => cell_regrown y0 d os
          clear x0 y0
          go_wp2_with fail
          refine wp_region_quiet_below (by kernel_rfl) (by kernel_rfl) ?_
          repeat (quiet_step (fail))
          refine wpQuiet_nil ?_
          intro _ hw'
          obtain ⟨⟨dq, osq⟩, hw''⟩ := hw'
          subst hw''
          have HB2 := Lib.hid (HB.out.trans ((below_regrown wr dq osq).mono HB.out.size))
          clear j0 j1
          generalize grow (redrawn wr dq) osq = w2 at *
          go_wp2
          go_roundw
          case rel => exact ⟨i + 1, by omega, by go_num, HB2⟩
          case measure => simp [intOf]; omega
        · have hil : ¬ (i : Int) < (k : Int) := by omega
          have HB3 := Lib.hid (HB8.out.trans (HB.out.mono HB8.out.size))
          clear HRD HSL HB8 HB
          go_wp2_with fail
          rw [HKN.out]
          go_ret
          exact ⟨rfl, HB3.out⟩
end Go.Proofs.Ytehmfkcihieecaa.Po
