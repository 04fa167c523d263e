/- The document's SameRow, Same of principals. (Laid with NS=1; written by wip/tools/gen/pot.py.) -/
import Derived.Test.YtehmfkcihieecaaPoV1
namespace Go.Proofs.Ytehmfkcihieecaa.Po
open Go.RowKit Go.Sort
open Te Te.Tt
open Go (Lit DataW MemPlace keyOf maxLen)

theorem eq_of_take {α : Type} {l q : List α} {i : Nat} (hl : l.length ≤ i) (hq : q.length ≤ i) (h : l.take i = q.take i) : l = q := by
  rwa [List.take_of_length_le hl, List.take_of_length_le hq] at h
theorem ne_of_at {α : Type} {l q : List α} {i : Nat} (hl : i < l.length) (hq : i < q.length) (h : l[i] ≠ q[i]) : l ≠ q := by
  rintro rfl; exact h rfl
theorem take_next {α : Type} {l q : List α} {i : Nat} (hl : i < l.length) (hq : i < q.length) (h : l.take i = q.take i) (he : l[i] = q[i]) : l.take (i + 1) = q.take (i + 1) := by
  rw [List.take_succ_eq_append_getElem hl, List.take_succ_eq_append_getElem hq, h, he]
set_option maxHeartbeats 4000000 in
set_option maxRecDepth 100000 in
theorem SameRow_any (l q : List Nm) (A B : Option Addr) (ca cb : Nat) (S : Nat → Prop) (w : World) (hl : SRd w S l A) (hq : SRd w S q B) (hS : ∀ b, S b → b < w.heap.size) (h9 : l.length ≤ 1000000) :
    Calls Try.prog 32 #[.slice A l.length ca, .slice B q.length cb] w fun e w' => e = .returned (.bool (decide (l = q))) ∧ RowKit.Below w.heap.size w w' := by
  obtain ⟨R, hR⟩ : ∃ R, R = decide (l = q) := ⟨_, rfl⟩
  rw [← hR]
  obtain ⟨m, hm⟩ : ∃ m, m = l.length := ⟨_, rfl⟩
  obtain ⟨k, hk⟩ : ∃ k, k = q.length := ⟨_, rfl⟩
  have HR := Lib.hid hR
  have HM := Lib.hid hm
  have HK := Lib.hid hk
  have HL := Lib.hid hl
  have HQ := Lib.hid hq
  have HS := Lib.hid hS
  rw [← hm] at h9 ⊢
  rw [← hk]
  clear hR hm hk hl hq hS
  go_enter Try.func32, Try.ntmps32
  by_cases hmk : m = k
  case neg =>
    have e : R = false := by rw [HR.out]; exact decide_eq_false (fun h => hmk (by rw [HM.out, HK.out, h]))
    subst e
    have i1 : ((m : Int) == (k : Int)) = false := by simp; omega
    go_wp2
    go_ret
    exact ⟨rfl, RowKit.Below.refl _ _⟩
  subst hmk
  go_wp2
  go_loopw [5] (fun iv wr => ∃ i : Nat, i ≤ m ∧ iv = .int .i64 (i : Nat) ∧ Hid (l.take i = q.take i) ∧ Hid (RowKit.Below w.heap.size w wr)) (fun iv _ => m - (intOf iv).toNat)
  case atStart => exact ⟨0, by omega, rfl, Lib.hid (by simp), RowKit.Below.refl _ _⟩
  case round =>
    obtain ⟨i, hi, rfl, HT, HB⟩ := hrel
    by_cases hlt : i < m
    · have hil : (i : Int) < (m : Int) := by omega
      have hl1 : i < l.length := by rw [← HM.out]; exact hlt
      have hq1 : i < q.length := by rw [← HK.out]; exact hlt
      obtain ⟨b, o, rfl, hSb, hcb⟩ := (HL.out.keep (w' := wr) (fun _ h => h) (fun b hb => HB.out.block b (HS.out b hb))).resolve_left (fun h => by rw [h] at hl1; simp at hl1)
      obtain ⟨b2, o2, rfl, hSb2, hcb2⟩ := (HQ.out.keep (w' := wr) (fun _ h => h) (fun b hb => HB.out.block b (HS.out b hb))).resolve_left (fun h => by rw [h] at hq1; simp at hq1)
      have x0 := hcb i hl1
      have y0 := hcb2 i hq1
      have HEQ : Hid (l[i] = q[i] → l.take (i + 1) = q.take (i + 1)) := fun e => take_next hl1 hq1 HT.out e
      have HNE : Hid (l[i] ≠ q[i] → R = false) := fun e => by rw [HR.out]; exact decide_eq_false (ne_of_at hl1 hq1 e)
      generalize l[i] = x at *
      generalize q[i] = y at *
      clear hcb hcb2 hSb hSb2 HT hl1 hq1
      have j0 := fun d os => cell_regrown x0 d os
      have j1 := fun d os => cell_regrown y0 d os
      clear x0 y0
      by_cases hxy : x = y
      · subst hxy
        have HT2 := Lib.hid (HEQ.out rfl)
        clear HEQ HNE
        go_wp2_with fail
        refine wp_region_quiet_below (by kernel_rfl) (by kernel_rfl) ?_
        repeat (quiet_step (fail))
        refine wpQuiet_nil ?_
        intro _ hw'
        obtain ⟨⟨dq, osq⟩, hw''⟩ := hw'
        subst hw''
        have HB2 := Lib.hid (HB.out.trans ((below_regrown wr dq osq).mono HB.out.size))
        clear j0 j1
        generalize grow (redrawn wr dq) osq = w2 at *
        go_wp2
        go_roundw
        case rel => exact ⟨i + 1, by omega, by go_num, HT2, HB2⟩
        case measure => simp [intOf]; omega
      · have hbeq : (x == y) = false := by simp [hxy]
        obtain rfl := HNE.out hxy
        clear HEQ HNE HR
        go_wp2_with fail
        refine wp_region_quiet_below (by kernel_rfl) (by kernel_rfl) ?_
        repeat (quiet_step (fail))
        refine wpQuiet_nil ?_
        intro _ hw'
        obtain ⟨⟨dq, osq⟩, hw''⟩ := hw'
        subst hw''
        have HB2 := Lib.hid (HB.out.trans ((below_regrown wr dq osq).mono HB.out.size))
        clear j0 j1
        generalize grow (redrawn wr dq) osq = w2 at *
        go_wp2
        go_ret
        exact ⟨rfl, HB2.out⟩
    · have hil : ¬ (i : Int) < (m : Int) := by omega
      have e : R = true := by rw [HR.out]; exact decide_eq_true (eq_of_take (by rw [← HM.out]; omega) (by rw [← HK.out]; omega) HT.out)
      subst e
      clear HT
      go_wp2
      go_ret
      exact ⟨rfl, HB.out⟩
end Go.Proofs.Ytehmfkcihieecaa.Po
