/- The document's Valid. -/
import Derived.Test.YtfhcfaflggiacaaDoorTmV8
namespace Go.Proofs.YtfhcfaflggiacaaDoor
open Go.RowKit
open Tt

def RValidSaid (x : Tm) : Prop := ∀ (d : Nat) (di : Int) (S : Nat → Prop) (v : Value) (w : World), di = d → d ≤ 262144 → bk x ≤ 4000000 → Rep w S x v → (∀ b, S b → b < w.heap.size) →
  Calls Tryd.prog 47 #[v, .int .i64 di] w fun e w' => e = .returned (.bool (vld d x)) ∧ Below w.heap.size w w'

theorem bk_app (x : Tm) (l : List Tm) (h : x ∈ l) : bk x ≤ bks l := bks_mem l x h

set_option maxHeartbeats 16000000 in
set_option maxRecDepth 100000 in
theorem refvalid_any : ∀ x, RValidSaid x := Tm.ind (by
  intro k s n l ih d di S v w hdi hd4 hbk hrx hS
  obtain ⟨A, ca, rfl, hin, hr⟩ := rep_mk.1 hrx
  rw [bk] at hbk
  have hll := bks_len l
  have hsl : s.length ≤ 9223372036854775807 := by omega
  obtain ⟨R, hR⟩ : ∃ R, R = vld d (.mk k s n l) := ⟨_, rfl⟩
  rw [← hR]
  rw [vld_mk] at hR
  have hnm := refName_any s hsl
  obtain ⟨m, hm⟩ : ∃ m, m = l.length := ⟨_, rfl⟩
  obtain ⟨z, hz⟩ : ∃ z, z = w.heap.size := ⟨_, rfl⟩
  obtain ⟨W2, hW2⟩ : ∃ W2, W2 = (w.alloc (.cells #[.int .i64 k, .string ⟨⟨s⟩⟩, .int .i64 n, .slice A m ca] 25)) := ⟨_, rfl⟩
  rw [← hm]
  have hB2 : Below w.heap.size w W2 := by rw [hW2]; exact (Below.refl _ _).alloc (Nat.le_refl _) _
  have hs2 : W2.heap.size = z + 1 := by rw [hW2, hz]; simp
  have hg0 : W2.heap[z]? = some (.cells #[.int .i64 k, .string ⟨⟨s⟩⟩, .int .i64 n, .slice A m ca] 25 (0, 0)) := by
    rw [hW2, hz]; exact heap_alloc_new w _
  have HC : Hid (∀ W, Below W2.heap.size W2 W → Below w.heap.size w W ∧ (W.cell? ⟨z, 0, none⟩ = some (.int .i64 k) ∧ W.cell? ⟨z, 1, none⟩ = some (.string ⟨⟨s⟩⟩) ∧ W.cell? ⟨z, 2, none⟩ = some (.int .i64 n) ∧ W.cell? ⟨z, 3, none⟩ = some (.slice A m ca))) := fun W h =>
    ⟨hB2.trans (h.mono hB2.size), cell4 ((h.block z (by omega)).trans hg0)⟩
  obtain ⟨hb2, c0, c1, c2, c3⟩ := HC.out W2 (Below.refl _ _)
  rw [hW2, hz] at c0 c1 c2 c3
  have HR := Lib.hid hr
  have HS := Lib.hid hS
  have HI := Lib.hid ih
  have HM := Lib.hid hm
  have HB2 := Lib.hid hB2
  have HW2 := Lib.hid hW2
  have HZ := Lib.hid hz
  have HBK := Lib.hid hbk
  have HIN := Lib.hid hin
  obtain ⟨NM, hNM⟩ : ∃ NM, NM = isName s := ⟨_, rfl⟩
  have HNM : Hid (∀ W, Calls Tryd.prog 24 #[.string ⟨⟨s⟩⟩] W fun e w' => e = .returned (.bool NM) ∧ w' = W) := by rw [Hid, hNM]; exact hnm
  have hm4 : m ≤ 4000000 := by omega
  have hmi0 : (0 : Int) ≤ (m : Int) := by omega
  have hsn : s = [] ∨ (s == []) = false := by cases s <;> simp
  rw [show mis (.mk k s n l) = mis (.mk k s n l) from rfl] at hR
  have hmis : mis (.mk k s n l) = (if k = 0 then !NM || decide (n ≠ 0) || decide (0 < m) else
    if k = 1 then decide (s ≠ []) || decide (0 < m) else
    if k = 2 then (decide (s ≠ []) && !NM) || decide (n < 1) || decide (0 < m) else
    if k = 3 then decide (s ≠ []) || decide (n ≠ 0) || decide (64 < m) else
    if k = 4 ∨ k = 5 then decide (s ≠ []) || decide (n < 1) || decide (255 < n) || decide (m ≠ 2) || decide (fk l ≠ 2) else true) := by rw [mis, hm, hNM]
  have hl0 : m = 0 → l.all (vld (d + 1)) = true := by
    intro h
    have : l = [] := List.eq_nil_of_length_eq_zero (by omega)
    rw [this]; rfl
  have HL0 := Lib.hid hl0
  have HMIS := Lib.hid hmis
  have HRR := Lib.hid hR
  subst hdi
  clear hr hrx hS ih hm hz hW2 hB2 hs2 hg0 hb2 hbk hin hNM hnm hl0 hmis hR hsl hll
  go_enter Tryd.func47, Tryd.ntmps47
  by_cases hd : d ≤ 16
  case neg =>
    have hdi : (16 : Int) < (d : Int) := by omega
    have HRF : Hid (R = false) := by rw [Hid, HRR.out]; simp [hd]
    clear HRR HMIS HL0
    have hk : k = 0 ∨ k = 1 ∨ k = 2 ∨ k = 3 ∨ k = 4 ∨ k = 5 ∨ (k ≠ 0 ∧ k ≠ 1 ∧ k ≠ 2 ∧ k ≠ 3 ∧ k ≠ 4 ∧ k ≠ 5) := by omega
    rcases hk with rfl | rfl | rfl | rfl | rfl | rfl | ⟨k0, k1, k2, k3, k4, k5⟩
    · cases NM
      all_goals
        go_wp2_with fail
        refine (HNM.out _).mono ?_
        rintro _ _ ⟨rfl, rfl⟩
        go_wp2
        all_goals go_ret
        all_goals exact ⟨ret_b HRF.out.symm, (Below.refl _ _).alloc (Nat.le_refl _) _⟩
    · by_cases hs0 : s = []
      · subst hs0
        go_wp2
        all_goals go_ret
        all_goals exact ⟨ret_b HRF.out.symm, (Below.refl _ _).alloc (Nat.le_refl _) _⟩
      · have q0 : (s == []) = false := by cases s <;> simp_all
        go_wp2
        all_goals go_ret
        all_goals exact ⟨ret_b HRF.out.symm, (Below.refl _ _).alloc (Nat.le_refl _) _⟩
    · by_cases hs0 : s = []
      · subst hs0
        go_wp2
        all_goals go_ret
        all_goals exact ⟨ret_b HRF.out.symm, (Below.refl _ _).alloc (Nat.le_refl _) _⟩
      · have q0 : (s == []) = false := by cases s <;> simp_all
        cases NM
        all_goals
          go_wp2_with fail
          refine (HNM.out _).mono ?_
          rintro _ _ ⟨rfl, rfl⟩
          go_wp2
          all_goals go_ret
          all_goals exact ⟨ret_b HRF.out.symm, (Below.refl _ _).alloc (Nat.le_refl _) _⟩
    · by_cases hs0 : s = []
      · subst hs0
        go_wp2
        all_goals go_ret
        all_goals exact ⟨ret_b HRF.out.symm, (Below.refl _ _).alloc (Nat.le_refl _) _⟩
      · have q0 : (s == []) = false := by cases s <;> simp_all
        go_wp2
        all_goals go_ret
        all_goals exact ⟨ret_b HRF.out.symm, (Below.refl _ _).alloc (Nat.le_refl _) _⟩
    · by_cases hs0 : s = []
      · subst hs0
        by_cases hm2 : m = 2
        · have hi0 : 0 < l.length := by have := HM.out; omega
          obtain ⟨bq, oq, kq, sq, nq, qq, Bq, cq, rfl, hSq, hxq, e0, e1, e2, e3, hrq⟩ := trow_get HR.out HB2.out HS.out hi0
          simp only [Nat.zero_mul, Nat.add_zero] at e0 e1 e2 e3
          rw [HW2.out] at e0 e1 e2 e3
          have hm2i : (m : Int) = 2 := by omega
          have hm0i : (0 : Int) < (m : Int) := by omega
          have hm0n : 0 < m := by omega
          clear hxq hrq hSq hi0 hm2
          go_wp2
          all_goals go_ret
          all_goals exact ⟨ret_b HRF.out.symm, (Below.refl _ _).alloc (Nat.le_refl _) _⟩
        · have r0 : ¬ (m : Int) = 2 := by omega
          have r1 : ((m : Int) == 2) = false := by simp; omega
          go_wp2
          all_goals go_ret
          all_goals exact ⟨ret_b HRF.out.symm, (Below.refl _ _).alloc (Nat.le_refl _) _⟩
      · have q0 : (s == []) = false := by cases s <;> simp_all
        by_cases hm2 : m = 2
        · have hi0 : 0 < l.length := by have := HM.out; omega
          obtain ⟨bq, oq, kq, sq, nq, qq, Bq, cq, rfl, hSq, hxq, e0, e1, e2, e3, hrq⟩ := trow_get HR.out HB2.out HS.out hi0
          simp only [Nat.zero_mul, Nat.add_zero] at e0 e1 e2 e3
          rw [HW2.out] at e0 e1 e2 e3
          have hm2i : (m : Int) = 2 := by omega
          have hm0i : (0 : Int) < (m : Int) := by omega
          have hm0n : 0 < m := by omega
          clear hxq hrq hSq hi0 hm2
          go_wp2
          all_goals go_ret
          all_goals exact ⟨ret_b HRF.out.symm, (Below.refl _ _).alloc (Nat.le_refl _) _⟩
        · have r0 : ¬ (m : Int) = 2 := by omega
          have r1 : ((m : Int) == 2) = false := by simp; omega
          go_wp2
          all_goals go_ret
          all_goals exact ⟨ret_b HRF.out.symm, (Below.refl _ _).alloc (Nat.le_refl _) _⟩
    · by_cases hs0 : s = []
      · subst hs0
        by_cases hm2 : m = 2
        · have hi0 : 0 < l.length := by have := HM.out; omega
          obtain ⟨bq, oq, kq, sq, nq, qq, Bq, cq, rfl, hSq, hxq, e0, e1, e2, e3, hrq⟩ := trow_get HR.out HB2.out HS.out hi0
          simp only [Nat.zero_mul, Nat.add_zero] at e0 e1 e2 e3
          rw [HW2.out] at e0 e1 e2 e3
          have hm2i : (m : Int) = 2 := by omega
          have hm0i : (0 : Int) < (m : Int) := by omega
          have hm0n : 0 < m := by omega
          clear hxq hrq hSq hi0 hm2
          go_wp2
          all_goals go_ret
          all_goals exact ⟨ret_b HRF.out.symm, (Below.refl _ _).alloc (Nat.le_refl _) _⟩
        · have r0 : ¬ (m : Int) = 2 := by omega
          have r1 : ((m : Int) == 2) = false := by simp; omega
          go_wp2
          all_goals go_ret
          all_goals exact ⟨ret_b HRF.out.symm, (Below.refl _ _).alloc (Nat.le_refl _) _⟩
      · have q0 : (s == []) = false := by cases s <;> simp_all
        by_cases hm2 : m = 2
        · have hi0 : 0 < l.length := by have := HM.out; omega
          obtain ⟨bq, oq, kq, sq, nq, qq, Bq, cq, rfl, hSq, hxq, e0, e1, e2, e3, hrq⟩ := trow_get HR.out HB2.out HS.out hi0
          simp only [Nat.zero_mul, Nat.add_zero] at e0 e1 e2 e3
          rw [HW2.out] at e0 e1 e2 e3
          have hm2i : (m : Int) = 2 := by omega
          have hm0i : (0 : Int) < (m : Int) := by omega
          have hm0n : 0 < m := by omega
          clear hxq hrq hSq hi0 hm2
          go_wp2
          all_goals go_ret
          all_goals exact ⟨ret_b HRF.out.symm, (Below.refl _ _).alloc (Nat.le_refl _) _⟩
        · have r0 : ¬ (m : Int) = 2 := by omega
          have r1 : ((m : Int) == 2) = false := by simp; omega
          go_wp2
          all_goals go_ret
          all_goals exact ⟨ret_b HRF.out.symm, (Below.refl _ _).alloc (Nat.le_refl _) _⟩
    · skip
      go_wp2
      all_goals go_ret
      all_goals exact ⟨ret_b HRF.out.symm, (Below.refl _ _).alloc (Nat.le_refl _) _⟩
  have hdi : ¬ (16 : Int) < (d : Int) := by omega
  have hk : k = 0 ∨ k = 1 ∨ k = 2 ∨ k = 3 ∨ k = 4 ∨ k = 5 ∨ (k ≠ 0 ∧ k ≠ 1 ∧ k ≠ 2 ∧ k ≠ 3 ∧ k ≠ 4 ∧ k ≠ 5) := by omega
  rcases hk with rfl | rfl | rfl | rfl | rfl | rfl | ⟨k0, k1, k2, k3, k4, k5⟩
  · skip
    cases NM
    · skip
      have HRF : Hid (R = false) := by rw [Hid, HRR.out, HMIS.out]; simp
      clear HRR HMIS HL0
      go_wp2_with fail
      refine (HNM.out _).mono ?_
      rintro _ _ ⟨rfl, rfl⟩
      go_wp2
      go_ret
      exact ⟨ret_b HRF.out.symm, by rw [← HW2.out]; exact HB2.out⟩
    · skip
      by_cases hn : n = 0
      · subst hn
        by_cases hm0 : m = 0
        · subst hm0
          have HRT : Hid (R = true) := by rw [Hid, HRR.out, HMIS.out, HL0.out rfl]; simp [hd]
          clear HRR HMIS HL0
          have HB22 : Hid (Below W2.heap.size W2 W2) := Below.refl _ _
          go_wp2_with fail
          refine (HNM.out _).mono ?_
          rintro _ _ ⟨rfl, rfl⟩
          go_wp2
          rw [← HW2.out, ← HZ.out]
          go_loopw [6] (fun iv wr => iv = .int .i64 0 ∧ Hid (Below W2.heap.size W2 wr)) (fun _ _ => 0)
          case atStart => exact ⟨rfl, HB22⟩
          case round =>
            obtain ⟨rfl, HB⟩ := hrel
            clear c0 c1 c2 c3
            obtain ⟨hbw, c0, c1, c2, c3⟩ := HC.out wr HB.out
            have HE := Lib.hid hbw
            clear hbw
            go_wp2
            go_ret
            exact ⟨ret_b HRT.out.symm, HE.out⟩
        · skip
          have q0 : ¬ (m : Int) = 0 := by omega
          have q1 : ((m : Int) == 0) = false := by simp; omega
          have HRF : Hid (R = false) := by rw [Hid, HRR.out, HMIS.out]; simp; omega
          clear HRR HMIS HL0
          go_wp2_with fail
          refine (HNM.out _).mono ?_
          rintro _ _ ⟨rfl, rfl⟩
          go_wp2
          go_ret
          exact ⟨ret_b HRF.out.symm, by rw [← HW2.out]; exact HB2.out⟩
      · skip
        have q0 : ¬ n = 0 := by omega
        have q1 : (n == 0) = false := by simp; omega
        have HRF : Hid (R = false) := by rw [Hid, HRR.out, HMIS.out]; simp [hn]
        clear HRR HMIS HL0
        go_wp2_with fail
        refine (HNM.out _).mono ?_
        rintro _ _ ⟨rfl, rfl⟩
        go_wp2
        go_ret
        exact ⟨ret_b HRF.out.symm, by rw [← HW2.out]; exact HB2.out⟩
  · skip
    by_cases hs0 : s = []
    · subst hs0
      by_cases hm0 : m = 0
      · subst hm0
        have HRT : Hid (R = true) := by rw [Hid, HRR.out, HMIS.out, HL0.out rfl]; simp [hd]
        clear HRR HMIS HL0
        have HB22 : Hid (Below W2.heap.size W2 W2) := Below.refl _ _
        go_wp2
        rw [← HW2.out, ← HZ.out]
        go_loopw [6] (fun iv wr => iv = .int .i64 0 ∧ Hid (Below W2.heap.size W2 wr)) (fun _ _ => 0)
        case atStart => exact ⟨rfl, HB22⟩
        case round =>
          obtain ⟨rfl, HB⟩ := hrel
          clear c0 c1 c2 c3
          obtain ⟨hbw, c0, c1, c2, c3⟩ := HC.out wr HB.out
          have HE := Lib.hid hbw
          clear hbw
          go_wp2
          go_ret
          exact ⟨ret_b HRT.out.symm, HE.out⟩
      · skip
        have q0 : ¬ (m : Int) = 0 := by omega
        have q1 : ((m : Int) == 0) = false := by simp; omega
        have HRF : Hid (R = false) := by rw [Hid, HRR.out, HMIS.out]; simp; omega
        clear HRR HMIS HL0
        go_wp2
        go_ret
        exact ⟨ret_b HRF.out.symm, by rw [← HW2.out]; exact HB2.out⟩
    · skip
      have q0 : (s == []) = false := by cases s <;> simp_all
      have HRF : Hid (R = false) := by rw [Hid, HRR.out, HMIS.out]; simp [hs0]
      clear HRR HMIS HL0
      go_wp2
      go_ret
      exact ⟨ret_b HRF.out.symm, by rw [← HW2.out]; exact HB2.out⟩
  · skip
    by_cases hs0 : s = []
    · subst hs0
      by_cases hn : n < 1
      · skip
        have q0 : ¬ (1 : Int) ≤ n := by omega
        have HRF : Hid (R = false) := by rw [Hid, HRR.out, HMIS.out]; simp [hn]
        clear HRR HMIS HL0
        go_wp2
        go_ret
        exact ⟨ret_b HRF.out.symm, by rw [← HW2.out]; exact HB2.out⟩
      · skip
        by_cases hm0 : m = 0
        · subst hm0
          have q0 : (1 : Int) ≤ n := by omega
          have HRT : Hid (R = true) := by rw [Hid, HRR.out, HMIS.out, HL0.out rfl]; simp [hd, hn]
          clear HRR HMIS HL0
          have HB22 : Hid (Below W2.heap.size W2 W2) := Below.refl _ _
          go_wp2
          rw [← HW2.out, ← HZ.out]
          go_loopw [6] (fun iv wr => iv = .int .i64 0 ∧ Hid (Below W2.heap.size W2 wr)) (fun _ _ => 0)
          case atStart => exact ⟨rfl, HB22⟩
          case round =>
            obtain ⟨rfl, HB⟩ := hrel
            clear c0 c1 c2 c3
            obtain ⟨hbw, c0, c1, c2, c3⟩ := HC.out wr HB.out
            have HE := Lib.hid hbw
            clear hbw
            go_wp2
            go_ret
            exact ⟨ret_b HRT.out.symm, HE.out⟩
        · skip
          have q0 : ¬ (m : Int) = 0 := by omega
          have q1 : ((m : Int) == 0) = false := by simp; omega
          have q2 : (1 : Int) ≤ n := by omega
          have HRF : Hid (R = false) := by rw [Hid, HRR.out, HMIS.out]; simp; omega
          clear HRR HMIS HL0
          go_wp2
          go_ret
          exact ⟨ret_b HRF.out.symm, by rw [← HW2.out]; exact HB2.out⟩
    · skip
      cases NM
      · skip
        have q0 : (s == []) = false := by cases s <;> simp_all
        have HRF : Hid (R = false) := by rw [Hid, HRR.out, HMIS.out]; simp [hs0]
        clear HRR HMIS HL0
        go_wp2_with fail
        refine (HNM.out _).mono ?_
        rintro _ _ ⟨rfl, rfl⟩
        go_wp2
        go_ret
        exact ⟨ret_b HRF.out.symm, by rw [← HW2.out]; exact HB2.out⟩
      · skip
        by_cases hn : n < 1
        · skip
          have q0 : (s == []) = false := by cases s <;> simp_all
          have q1 : ¬ (1 : Int) ≤ n := by omega
          have HRF : Hid (R = false) := by rw [Hid, HRR.out, HMIS.out]; simp [hn]
          clear HRR HMIS HL0
          go_wp2_with fail
          refine (HNM.out _).mono ?_
          rintro _ _ ⟨rfl, rfl⟩
          go_wp2
          go_ret
          exact ⟨ret_b HRF.out.symm, by rw [← HW2.out]; exact HB2.out⟩
        · skip
          by_cases hm0 : m = 0
          · subst hm0
            have q0 : (s == []) = false := by cases s <;> simp_all
            have q1 : (1 : Int) ≤ n := by omega
            have HRT : Hid (R = true) := by rw [Hid, HRR.out, HMIS.out, HL0.out rfl]; simp [hd, hn]
            clear HRR HMIS HL0
            have HB22 : Hid (Below W2.heap.size W2 W2) := Below.refl _ _
            go_wp2_with fail
            refine (HNM.out _).mono ?_
            rintro _ _ ⟨rfl, rfl⟩
            go_wp2
            rw [← HW2.out, ← HZ.out]
            go_loopw [6] (fun iv wr => iv = .int .i64 0 ∧ Hid (Below W2.heap.size W2 wr)) (fun _ _ => 0)
            case atStart => exact ⟨rfl, HB22⟩
            case round =>
              obtain ⟨rfl, HB⟩ := hrel
              clear c0 c1 c2 c3
              obtain ⟨hbw, c0, c1, c2, c3⟩ := HC.out wr HB.out
              have HE := Lib.hid hbw
              clear hbw
              go_wp2
              go_ret
              exact ⟨ret_b HRT.out.symm, HE.out⟩
          · skip
            have q0 : (s == []) = false := by cases s <;> simp_all
            have q1 : ¬ (m : Int) = 0 := by omega
            have q2 : ((m : Int) == 0) = false := by simp; omega
            have q3 : (1 : Int) ≤ n := by omega
            have HRF : Hid (R = false) := by rw [Hid, HRR.out, HMIS.out]; simp; omega
            clear HRR HMIS HL0
            go_wp2_with fail
            refine (HNM.out _).mono ?_
            rintro _ _ ⟨rfl, rfl⟩
            go_wp2
            go_ret
            exact ⟨ret_b HRF.out.symm, by rw [← HW2.out]; exact HB2.out⟩
  · skip
    by_cases hs0 : s = []
    · subst hs0
      by_cases hn : n = 0
      · subst hn
        by_cases hm64 : 64 < m
        · skip
          have q0 : ¬ (m : Int) ≤ 64 := by omega
          have HRF : Hid (R = false) := by rw [Hid, HRR.out, HMIS.out]; simp [hm64]
          clear HRR HMIS HL0
          go_wp2
          go_ret
          exact ⟨ret_b HRF.out.symm, by rw [← HW2.out]; exact HB2.out⟩
        · skip
          have q0 : (m : Int) ≤ 64 := by omega
          have HRL : Hid (R = l.all (vld (d + 1))) := by rw [Hid, HRR.out, HMIS.out]; simp [hd, hm64]
          clear HRR HMIS HL0
          have HB22 : Hid (Below W2.heap.size W2 W2) := Below.refl _ _
          go_wp2
          rw [← HW2.out, ← HZ.out]
          go_loopw [6] (fun iv wr => ∃ i : Nat, i ≤ m ∧ iv = .int .i64 (i : Nat) ∧ Hid ((l.take i).all (vld (d + 1)) = true) ∧ Hid (Below W2.heap.size W2 wr)) (fun iv _ => m - (intOf iv).toNat)
          case atStart => exact ⟨0, by omega, rfl, Lib.hid (by simp), HB22⟩
          case round =>
            obtain ⟨i, hi, rfl, HA, HB⟩ := hrel
            clear c0 c1 c2 c3
            obtain ⟨hbw, c0, c1, c2, c3⟩ := HC.out wr HB.out
            by_cases hlt : i < m
            · have hlt1 : i < l.length := by rw [← HM.out]; exact hlt
              have hil : (i : Int) < (m : Int) := by omega
              obtain ⟨b, o, k1, s1, n1, q1, B1, cb1, rfl, hSb, hx, e0, e1, e2, e3, hrep⟩ := trow_get HR.out hbw HS.out hlt1
              have hmem : l[i] ∈ l := List.getElem_mem hlt1
              have hbm := bks_mem l _ hmem
              have hO := HI.out _ hmem
              have hta : (l.take (i + 1)).all (vld (d + 1)) = vld (d + 1) l[i] := by rw [List.take_succ_eq_append_getElem hlt1, List.all_append, HA.out]; simp
              have hfa : vld (d + 1) l[i] = false → R = false := by
                intro h
                rw [HRL.out, List.all_eq_false]
                exact ⟨_, hmem, by simp [h]⟩
              rw [hx] at hO hbm hta hfa
              have hcall := hO (d + 1) ((d : Int) + 1) S _ wr (by omega) (by omega) (by have := HBK.out; omega) hrep (fun b hb => Nat.lt_of_lt_of_le (HS.out b hb) hbw.size)
              obtain ⟨V, hV⟩ : ∃ V, V = vld (d + 1) (.mk k1 s1 n1 q1) := ⟨_, rfl⟩
              rw [← hV] at hcall hta hfa
              have HCALL := Lib.hid hcall
              have HTA := Lib.hid hta
              have HFA := Lib.hid hfa
              have HBW := Lib.hid hbw
              clear hcall hta hfa hO hbm hmem hx hrep hV HA hbw
              cases V
              · go_wp2_with fail
                refine HCALL.out.mono ?_
                rintro _ w1 ⟨rfl, b1⟩
                have HE : Hid (Below w.heap.size w w1) := HBW.out.trans (b1.mono HBW.out.size)
                have HRF : Hid (R = false) := HFA.out trivial
                clear b1
                go_wp2
                go_ret
                exact ⟨ret_b HRF.out.symm, HE.out⟩
              · go_wp2_with fail
                refine HCALL.out.mono ?_
                rintro _ w1 ⟨rfl, b1⟩
                have HB1 : Hid (Below W2.heap.size W2 w1) := HB.out.trans (b1.mono HB.out.size)
                clear b1 c0 c1 c2 c3 e0 e1 e2 e3
                go_wp2
                go_roundw
                case rel => exact ⟨i + 1, by omega, by go_num, HTA, HB1⟩
                case measure => simp [intOf]; omega
            · have hil : ¬ (i : Int) < (m : Int) := by omega
              have hie : l.take i = l := List.take_of_length_le (by rw [← HM.out]; omega)
              have hA := HA.out
              rw [hie] at hA
              have HRT : Hid (R = true) := by rw [Hid, HRL.out, hA]
              have HE := Lib.hid hbw
              clear hA hie HA hbw
              go_wp2
              go_ret
              exact ⟨ret_b HRT.out.symm, HE.out⟩
      · skip
        have q0 : ¬ n = 0 := by omega
        have q1 : (n == 0) = false := by simp; omega
        have HRF : Hid (R = false) := by rw [Hid, HRR.out, HMIS.out]; simp [hn]
        clear HRR HMIS HL0
        go_wp2
        go_ret
        exact ⟨ret_b HRF.out.symm, by rw [← HW2.out]; exact HB2.out⟩
    · skip
      have q0 : (s == []) = false := by cases s <;> simp_all
      have HRF : Hid (R = false) := by rw [Hid, HRR.out, HMIS.out]; simp [hs0]
      clear HRR HMIS HL0
      go_wp2
      go_ret
      exact ⟨ret_b HRF.out.symm, by rw [← HW2.out]; exact HB2.out⟩
  · skip
    by_cases hs0 : s = []
    · subst hs0
      by_cases hn : n < 1
      · skip
        have q0 : ¬ (1 : Int) ≤ n := by omega
        have HRF : Hid (R = false) := by rw [Hid, HRR.out, HMIS.out]; simp [hn]
        clear HRR HMIS HL0
        go_wp2
        go_ret
        exact ⟨ret_b HRF.out.symm, by rw [← HW2.out]; exact HB2.out⟩
      · skip
        have r80 : (1 : Int) ≤ n := by omega
        by_cases hn2 : 255 < n
        · skip
          have q0 : ¬ n ≤ 255 := by omega
          have HRF : Hid (R = false) := by rw [Hid, HRR.out, HMIS.out]; simp [hn2]
          clear HRR HMIS HL0
          go_wp2
          go_ret
          exact ⟨ret_b HRF.out.symm, by rw [← HW2.out]; exact HB2.out⟩
        · skip
          have r100 : n ≤ 255 := by omega
          by_cases hm2 : m = 2
          · skip
            obtain ⟨y0, y1, hl2⟩ : ∃ y0 y1, l = [y0, y1] := by
              have := HM.out
              rw [hm2] at this
              match l, this with
              | [y0, y1], _ => exact ⟨y0, y1, rfl⟩
            have hi0 : 0 < l.length := by rw [hl2]; simp
            obtain ⟨bq, oq, kq, sq, nq, qq, Bq, cq, rfl, hSq, hxq, e0, e1, e2, e3, hrq⟩ := trow_get HR.out HB2.out HS.out hi0
            simp only [Nat.zero_mul, Nat.add_zero] at e0 e1 e2 e3
            rw [HW2.out] at e0 e1 e2 e3
            have hfk : fk l = kq := by
              have h5 : l[0] = y0 := by simp [hl2]
              rw [h5] at hxq
              rw [hl2, fk, hxq]; rfl
            rw [hfk] at HMIS
            clear hfk hxq hrq hl2 hSq
            have hm2i : (m : Int) = 2 ↔ True := by simp; omega
            have hm2b : ((m : Int) == 2) = true := by simp; omega
            have hm0i : (0 : Int) < (m : Int) := by omega
            have hm0n : 0 < m := by omega
            have HM2 := Lib.hid hm2
            clear hm2
            by_cases hq2 : kq = 2
            · subst hq2
              have hm2 := HM2.out
              have HRT0 : Hid (R = l.all (vld (d + 1))) := by rw [Hid, HRR.out, HMIS.out]; simp [hd, hm2]; omega
              have HRL := HRT0
              clear hm2 e1 e2 e3
              clear HRR HMIS HL0
              have HB22 : Hid (Below W2.heap.size W2 W2) := Below.refl _ _
              go_wp2
              rw [← HW2.out, ← HZ.out]
              go_loopw [6] (fun iv wr => ∃ i : Nat, i ≤ m ∧ iv = .int .i64 (i : Nat) ∧ Hid ((l.take i).all (vld (d + 1)) = true) ∧ Hid (Below W2.heap.size W2 wr)) (fun iv _ => m - (intOf iv).toNat)
              case atStart => exact ⟨0, by omega, rfl, Lib.hid (by simp), HB22⟩
              case round =>
                obtain ⟨i, hi, rfl, HA, HB⟩ := hrel
                clear c0 c1 c2 c3 e0
                obtain ⟨hbw, c0, c1, c2, c3⟩ := HC.out wr HB.out
                by_cases hlt : i < m
                · have hlt1 : i < l.length := by rw [← HM.out]; exact hlt
                  have hil : (i : Int) < (m : Int) := by omega
                  obtain ⟨b, o, k1, s1, n1, q1, B1, cb1, hAq, hSb, hx, e0, e1, e2, e3, hrep⟩ := trow_get HR.out hbw HS.out hlt1
                  obtain ⟨rfl, rfl⟩ : bq = b ∧ oq = o := by simpa using hAq
                  have hmem : l[i] ∈ l := List.getElem_mem hlt1
                  have hbm := bks_mem l _ hmem
                  have hO := HI.out _ hmem
                  have hta : (l.take (i + 1)).all (vld (d + 1)) = vld (d + 1) l[i] := by rw [List.take_succ_eq_append_getElem hlt1, List.all_append, HA.out]; simp
                  have hfa : vld (d + 1) l[i] = false → R = false := by
                    intro h
                    rw [HRL.out, List.all_eq_false]
                    exact ⟨_, hmem, by simp [h]⟩
                  rw [hx] at hO hbm hta hfa
                  have hcall := hO (d + 1) ((d : Int) + 1) S _ wr (by omega) (by omega) (by have := HBK.out; omega) hrep (fun b hb => Nat.lt_of_lt_of_le (HS.out b hb) hbw.size)
                  obtain ⟨V, hV⟩ : ∃ V, V = vld (d + 1) (.mk k1 s1 n1 q1) := ⟨_, rfl⟩
                  rw [← hV] at hcall hta hfa
                  have HCALL := Lib.hid hcall
                  have HTA := Lib.hid hta
                  have HFA := Lib.hid hfa
                  have HBW := Lib.hid hbw
                  clear hcall hta hfa hO hbm hmem hx hrep hV HA hbw
                  cases V
                  · go_wp2_with fail
                    refine HCALL.out.mono ?_
                    rintro _ w1 ⟨rfl, b1⟩
                    have HE : Hid (Below w.heap.size w w1) := HBW.out.trans (b1.mono HBW.out.size)
                    have HRF : Hid (R = false) := HFA.out trivial
                    clear b1
                    go_wp2
                    go_ret
                    exact ⟨ret_b HRF.out.symm, HE.out⟩
                  · go_wp2_with fail
                    refine HCALL.out.mono ?_
                    rintro _ w1 ⟨rfl, b1⟩
                    have HB1 : Hid (Below W2.heap.size W2 w1) := HB.out.trans (b1.mono HB.out.size)
                    clear b1 c0 c1 c2 c3 e0 e1 e2 e3
                    go_wp2
                    go_roundw
                    case rel => exact ⟨i + 1, by omega, by go_num, HTA, HB1⟩
                    case measure => simp [intOf]; omega
                · have hil : ¬ (i : Int) < (m : Int) := by omega
                  have hie : l.take i = l := List.take_of_length_le (by rw [← HM.out]; omega)
                  have hA := HA.out
                  rw [hie] at hA
                  have HRT : Hid (R = true) := by rw [Hid, HRL.out, hA]
                  have HE := Lib.hid hbw
                  clear hA hie HA hbw
                  go_wp2
                  go_ret
                  exact ⟨ret_b HRT.out.symm, HE.out⟩
            · skip
              have q0 : (kq == 2) = false := by simp; omega
              have HRF : Hid (R = false) := by rw [Hid, HRR.out, HMIS.out]; simp [hq2]
              clear HRR HMIS HL0
              go_wp2
              go_ret
              exact ⟨ret_b HRF.out.symm, by rw [← HW2.out]; exact HB2.out⟩
          · skip
            have q0 : ¬ (m : Int) = 2 := by omega
            have q1 : ((m : Int) == 2) = false := by simp; omega
            have HRF : Hid (R = false) := by rw [Hid, HRR.out, HMIS.out]; simp [hm2]
            clear HRR HMIS HL0
            go_wp2
            go_ret
            exact ⟨ret_b HRF.out.symm, by rw [← HW2.out]; exact HB2.out⟩
    · skip
      have q0 : (s == []) = false := by cases s <;> simp_all
      have HRF : Hid (R = false) := by rw [Hid, HRR.out, HMIS.out]; simp [hs0]
      clear HRR HMIS HL0
      go_wp2
      go_ret
      exact ⟨ret_b HRF.out.symm, by rw [← HW2.out]; exact HB2.out⟩
  · skip
    by_cases hs0 : s = []
    · subst hs0
      by_cases hn : n < 1
      · skip
        have q0 : ¬ (1 : Int) ≤ n := by omega
        have HRF : Hid (R = false) := by rw [Hid, HRR.out, HMIS.out]; simp [hn]
        clear HRR HMIS HL0
        go_wp2
        go_ret
        exact ⟨ret_b HRF.out.symm, by rw [← HW2.out]; exact HB2.out⟩
      · skip
        have r80 : (1 : Int) ≤ n := by omega
        by_cases hn2 : 255 < n
        · skip
          have q0 : ¬ n ≤ 255 := by omega
          have HRF : Hid (R = false) := by rw [Hid, HRR.out, HMIS.out]; simp [hn2]
          clear HRR HMIS HL0
          go_wp2
          go_ret
          exact ⟨ret_b HRF.out.symm, by rw [← HW2.out]; exact HB2.out⟩
        · skip
          have r100 : n ≤ 255 := by omega
          by_cases hm2 : m = 2
          · skip
            obtain ⟨y0, y1, hl2⟩ : ∃ y0 y1, l = [y0, y1] := by
              have := HM.out
              rw [hm2] at this
              match l, this with
              | [y0, y1], _ => exact ⟨y0, y1, rfl⟩
            have hi0 : 0 < l.length := by rw [hl2]; simp
            obtain ⟨bq, oq, kq, sq, nq, qq, Bq, cq, rfl, hSq, hxq, e0, e1, e2, e3, hrq⟩ := trow_get HR.out HB2.out HS.out hi0
            simp only [Nat.zero_mul, Nat.add_zero] at e0 e1 e2 e3
            rw [HW2.out] at e0 e1 e2 e3
            have hfk : fk l = kq := by
              have h5 : l[0] = y0 := by simp [hl2]
              rw [h5] at hxq
              rw [hl2, fk, hxq]; rfl
            rw [hfk] at HMIS
            clear hfk hxq hrq hl2 hSq
            have hm2i : (m : Int) = 2 ↔ True := by simp; omega
            have hm2b : ((m : Int) == 2) = true := by simp; omega
            have hm0i : (0 : Int) < (m : Int) := by omega
            have hm0n : 0 < m := by omega
            have HM2 := Lib.hid hm2
            clear hm2
            by_cases hq2 : kq = 2
            · subst hq2
              have hm2 := HM2.out
              have HRT0 : Hid (R = l.all (vld (d + 1))) := by rw [Hid, HRR.out, HMIS.out]; simp [hd, hm2]; omega
              have HRL := HRT0
              clear hm2 e1 e2 e3
              clear HRR HMIS HL0
              have HB22 : Hid (Below W2.heap.size W2 W2) := Below.refl _ _
              go_wp2
              rw [← HW2.out, ← HZ.out]
              go_loopw [6] (fun iv wr => ∃ i : Nat, i ≤ m ∧ iv = .int .i64 (i : Nat) ∧ Hid ((l.take i).all (vld (d + 1)) = true) ∧ Hid (Below W2.heap.size W2 wr)) (fun iv _ => m - (intOf iv).toNat)
              case atStart => exact ⟨0, by omega, rfl, Lib.hid (by simp), HB22⟩
              case round =>
                obtain ⟨i, hi, rfl, HA, HB⟩ := hrel
                clear c0 c1 c2 c3 e0
                obtain ⟨hbw, c0, c1, c2, c3⟩ := HC.out wr HB.out
                by_cases hlt : i < m
                · have hlt1 : i < l.length := by rw [← HM.out]; exact hlt
                  have hil : (i : Int) < (m : Int) := by omega
                  obtain ⟨b, o, k1, s1, n1, q1, B1, cb1, hAq, hSb, hx, e0, e1, e2, e3, hrep⟩ := trow_get HR.out hbw HS.out hlt1
                  obtain ⟨rfl, rfl⟩ : bq = b ∧ oq = o := by simpa using hAq
                  have hmem : l[i] ∈ l := List.getElem_mem hlt1
                  have hbm := bks_mem l _ hmem
                  have hO := HI.out _ hmem
                  have hta : (l.take (i + 1)).all (vld (d + 1)) = vld (d + 1) l[i] := by rw [List.take_succ_eq_append_getElem hlt1, List.all_append, HA.out]; simp
                  have hfa : vld (d + 1) l[i] = false → R = false := by
                    intro h
                    rw [HRL.out, List.all_eq_false]
                    exact ⟨_, hmem, by simp [h]⟩
                  rw [hx] at hO hbm hta hfa
                  have hcall := hO (d + 1) ((d : Int) + 1) S _ wr (by omega) (by omega) (by have := HBK.out; omega) hrep (fun b hb => Nat.lt_of_lt_of_le (HS.out b hb) hbw.size)
                  obtain ⟨V, hV⟩ : ∃ V, V = vld (d + 1) (.mk k1 s1 n1 q1) := ⟨_, rfl⟩
                  rw [← hV] at hcall hta hfa
                  have HCALL := Lib.hid hcall
                  have HTA := Lib.hid hta
                  have HFA := Lib.hid hfa
                  have HBW := Lib.hid hbw
                  clear hcall hta hfa hO hbm hmem hx hrep hV HA hbw
                  cases V
                  · go_wp2_with fail
                    refine HCALL.out.mono ?_
                    rintro _ w1 ⟨rfl, b1⟩
                    have HE : Hid (Below w.heap.size w w1) := HBW.out.trans (b1.mono HBW.out.size)
                    have HRF : Hid (R = false) := HFA.out trivial
                    clear b1
                    go_wp2
                    go_ret
                    exact ⟨ret_b HRF.out.symm, HE.out⟩
                  · go_wp2_with fail
                    refine HCALL.out.mono ?_
                    rintro _ w1 ⟨rfl, b1⟩
                    have HB1 : Hid (Below W2.heap.size W2 w1) := HB.out.trans (b1.mono HB.out.size)
                    clear b1 c0 c1 c2 c3 e0 e1 e2 e3
                    go_wp2
                    go_roundw
                    case rel => exact ⟨i + 1, by omega, by go_num, HTA, HB1⟩
                    case measure => simp [intOf]; omega
                · have hil : ¬ (i : Int) < (m : Int) := by omega
                  have hie : l.take i = l := List.take_of_length_le (by rw [← HM.out]; omega)
                  have hA := HA.out
                  rw [hie] at hA
                  have HRT : Hid (R = true) := by rw [Hid, HRL.out, hA]
                  have HE := Lib.hid hbw
                  clear hA hie HA hbw
                  go_wp2
                  go_ret
                  exact ⟨ret_b HRT.out.symm, HE.out⟩
            · skip
              have q0 : (kq == 2) = false := by simp; omega
              have HRF : Hid (R = false) := by rw [Hid, HRR.out, HMIS.out]; simp [hq2]
              clear HRR HMIS HL0
              go_wp2
              go_ret
              exact ⟨ret_b HRF.out.symm, by rw [← HW2.out]; exact HB2.out⟩
          · skip
            have q0 : ¬ (m : Int) = 2 := by omega
            have q1 : ((m : Int) == 2) = false := by simp; omega
            have HRF : Hid (R = false) := by rw [Hid, HRR.out, HMIS.out]; simp [hm2]
            clear HRR HMIS HL0
            go_wp2
            go_ret
            exact ⟨ret_b HRF.out.symm, by rw [← HW2.out]; exact HB2.out⟩
    · skip
      have q0 : (s == []) = false := by cases s <;> simp_all
      have HRF : Hid (R = false) := by rw [Hid, HRR.out, HMIS.out]; simp [hs0]
      clear HRR HMIS HL0
      go_wp2
      go_ret
      exact ⟨ret_b HRF.out.symm, by rw [← HW2.out]; exact HB2.out⟩
  · skip
    have HRF : Hid (R = false) := by rw [Hid, HRR.out, HMIS.out]; simp [k0, k1, k2, k3, k4, k5]
    clear HRR HMIS HL0
    go_wp2
    go_ret
    exact ⟨ret_b HRF.out.symm, by rw [← HW2.out]; exact HB2.out⟩
)
end Go.Proofs.YtfhcfaflggiacaaDoor
