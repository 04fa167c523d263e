/- The document's answer: prime. -/
import Derived.Test.YtihgglplbanegaaDoorShaV2
namespace Go.Proofs.YtihgglplbanegaaDoor
open Go.RowKit

def isP (n : Nat) : Bool := (List.range 20).all fun e => decide (e < 2) || decide (n < e * e) || decide (¬ n % e = 0)
theorem isP_iff (n : Nat) : isP n = true ↔ ∀ e, e < 20 → 2 ≤ e → e * e ≤ n → ¬ n % e = 0 := by
  simp only [isP, List.all_eq_true, List.mem_range, Bool.or_eq_true, decide_eq_true_eq]
  constructor
  · intro h e h1 h2 h3
    rcases h e h1 with (h4 | h4) | h4
    · omega
    · omega
    · exact h4
  · intro h e h1
    by_cases h2 : e < 2
    · exact .inl (.inl h2)
    · by_cases h3 : n < e * e
      · exact .inl (.inr h3)
      · exact .inr (h e h1 (by omega) (by omega))
/-- How many primes are below. -/
def cp : Nat → Nat
  | 0 => 0
  | n + 1 => cp n + if 2 ≤ n ∧ isP n = true then 1 else 0
theorem cp_mono {m n : Nat} (h : m ≤ n) : cp m ≤ cp n := by
  induction n with
  | zero => have : m = 0 := by omega
            subst this; exact Nat.le_refl _
  | succ n ih =>
    by_cases e : m = n + 1
    · subst e; exact Nat.le_refl _
    · have := ih (by omega)
      rw [cp]
      omega
theorem pr_facts : ∀ i, i < 64 → isP (Sh.PR.getD i 0) = true ∧ cp (Sh.PR.getD i 0) = i ∧ 2 ≤ Sh.PR.getD i 0 ∧ Sh.PR.getD i 0 ≤ 311 := by decide +kernel

theorem small_root {d n : Nat} (hn : n ≤ 311) (h : d * d ≤ n) : d < 20 := by
  rcases Nat.lt_or_ge d 20 with h1 | h1
  · exact h1
  · have : 20 * 20 ≤ d * d := Nat.mul_le_mul h1 h1
    omega

set_option maxRecDepth 100000 in
set_option maxHeartbeats 1000000 in
theorem prime_any (i : Nat) (w : World) (hi : i < 64) :
    Calls Tryd.prog 31 #[.int .i64 i] w fun e w' => e = .returned (.int .i64 (Sh.PR.getD i 0 : Nat)) ∧ w = w' := by
  obtain ⟨hp1, hp2, hp3, hp4⟩ := pr_facts i hi
  generalize hP : Sh.PR.getD i 0 = P at *
  have HP := Lib.hid hP
  have HP1 := Lib.hid hp1
  have HP2 := Lib.hid hp2
  clear hP hp1 hp2
  go_enter Tryd.func31, Tryd.ntmps31
  go_wp2_with fail
  go_loop [3, 4, 5, 6] (fun n k _ _ => ∃ m : Nat, 2 ≤ m ∧ m ≤ P ∧ n = .int .i64 (m : Nat) ∧ k = .int .i64 (cp m : Nat)) (fun n _ _ _ => P - (intOf n).toNat)
  case atStart => exact ⟨2, by omega, by omega, rfl, rfl⟩
  case round =>
    obtain ⟨m, hm2, hmP, rfl, rfl⟩ := hrel
    go_wp2_with fail
    go_loop [5, 6] (fun s d => ∃ (b : Bool) (e : Nat), 2 ≤ e ∧ e ≤ 20 ∧ s = .bool b ∧ d = .int .i64 (e : Nat) ∧ Hid (if b = true then (∀ f, 2 ≤ f → f < e → ¬ m % f = 0) else (∃ f, f < 20 ∧ 2 ≤ f ∧ f * f ≤ m ∧ m % f = 0))) (fun _ d => 20 - (intOf d).toNat)
    case atStart => exact ⟨true, 2, by omega, by omega, rfl, rfl, by rw [Hid, if_pos rfl]; intro f h1 h2; omega⟩
    case round =>
      obtain ⟨b, e, he2, he20, rfl, rfl, HB⟩ := hrel
      obtain ⟨ee, hee0⟩ : ∃ ee : Nat, ee = e * e := ⟨_, rfl⟩
      have hmul : (e : Int) * (e : Int) = (ee : Int) := by rw [hee0]; simp
      have hee1 : ee ≤ 400 := by rw [hee0]; exact Nat.mul_le_mul he20 he20
      have HEE := Lib.hid hee0
      clear hee0
      by_cases hee : ee ≤ m
      · have he19 : e < 20 := small_root (by omega) (HEE.out ▸ hee)
        cases b with
        | true =>
          have HB2 := HB.out
          rw [if_pos rfl] at HB2
          have HB3 := Lib.hid HB2
          clear HB2 HB
          have hne : ¬ (e : Int) = 0 := by omega
          by_cases hdv : m % e = 0
          · have e1 : ((m : Int) % (e : Int) != 0) = false := by rw [bne_eq_false_iff_eq, ← Int.natCast_emod, hdv]; rfl
            have HDV := Lib.hid hdv
            clear hdv
            go_wp2
            go_round
            case rel => exact ⟨false, e + 1, by omega, by omega, rfl, by go_num, by rw [Hid, if_neg (by simp)]; exact ⟨e, he19, he2, by rw [← HEE.out]; exact hee, HDV.out⟩⟩
            case measure => simp [intOf]; omega
          · have e1 : ((m : Int) % (e : Int) != 0) = true := by rw [bne_iff_ne, ← Int.natCast_emod]; omega
            have HDV := Lib.hid hdv
            clear hdv
            go_wp2
            go_round
            case rel => exact ⟨true, e + 1, by omega, by omega, rfl, by go_num, by
              rw [Hid, if_pos rfl]
              intro f h1 h2
              by_cases hf : f = e
              · rw [hf]; exact HDV.out
              · exact HB3.out f h1 (by omega)⟩
            case measure => simp [intOf]; omega
        | false =>
          have HB2 := HB.out
          rw [if_neg (by simp)] at HB2
          have hP : isP m = false := by
            rw [Bool.eq_false_iff, ne_eq, isP_iff]
            intro h
            obtain ⟨f, h1, h2, h3, h4⟩ := HB2
            exact h f h1 h2 h3 h4
          have hmP2 : m + 1 ≤ P := by
            rcases Nat.lt_or_ge m P with h | h
            · exact h
            · have : m = P := by omega
              rw [this, HP1.out] at hP
              cases hP
          have HCP : Hid (cp (m + 1) = cp m) := by rw [Hid, cp, hP]; simp
          clear HB2 HB hP
          go_wp2
          go_round
          case rel => exact ⟨m + 1, by omega, hmP2, by go_num, by rw [HCP.out]⟩
          case measure => simp [intOf]; omega
      · cases b with
        | true =>
          have HB2 := HB.out
          rw [if_pos rfl] at HB2
          have hP : isP m = true := by
            rw [isP_iff]
            intro f _ h2 h3
            refine HB2 f h2 ?_
            rcases Nat.lt_or_ge f e with h | h
            · exact h
            · have : e * e ≤ f * f := Nat.mul_le_mul h h
              have := HEE.out
              omega
          have HCP : Hid (cp (m + 1) = cp m + 1) := by rw [Hid, cp, hP, if_pos ⟨hm2, rfl⟩]
          clear HB2 HB hP
          have hcm : cp m ≤ i := by have := cp_mono hmP; have := HP2.out; omega
          by_cases hci : cp m = i
          · have hmP3 : m = P := by
              rcases Nat.lt_or_ge m P with h | h
              · have h1 := cp_mono (show m + 1 ≤ P from h)
                have h2 := HP2.out
                have h3 := HCP.out
                omega
              · omega
            have e1 : ((cp m : Int) == (i : Int)) = true := by rw [hci]; simp
            have HMP := Lib.hid hmP3
            clear hmP3 hci
            go_wp2
            go_ret
            exact ⟨by rw [← HMP.out]; rfl, rfl⟩
          · have e1 : ((cp m : Int) == (i : Int)) = false := by rw [beq_eq_false_iff_ne]; omega
            have hmP2 : m + 1 ≤ P := by
              rcases Nat.lt_or_ge m P with h | h
              · exact h
              · have : m = P := by omega
                rw [this, HP2.out] at hci
                exact absurd rfl hci
            clear hci
            go_wp2
            go_round
            case rel => exact ⟨m + 1, by omega, hmP2, by go_num, by rw [HCP.out]; go_num⟩
            case measure => simp [intOf]; omega
        | false =>
          have HB2 := HB.out
          rw [if_neg (by simp)] at HB2
          have hP : isP m = false := by
            rw [Bool.eq_false_iff, ne_eq, isP_iff]
            intro h
            obtain ⟨f, h1, h2, h3, h4⟩ := HB2
            exact h f h1 h2 h3 h4
          have hmP2 : m + 1 ≤ P := by
            rcases Nat.lt_or_ge m P with h | h
            · exact h
            · have : m = P := by omega
              rw [this, HP1.out] at hP
              cases hP
          have HCP : Hid (cp (m + 1) = cp m) := by rw [Hid, cp, hP]; simp
          clear HB2 HB hP
          go_wp2
          go_round
          case rel => exact ⟨m + 1, by omega, hmP2, by go_num, by rw [HCP.out]⟩
          case measure => simp [intOf]; omega
end Go.Proofs.YtihgglplbanegaaDoor
