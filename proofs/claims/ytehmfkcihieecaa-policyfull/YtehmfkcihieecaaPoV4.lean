/- The document's digits, of what is not below zero. (Laid with NS=1; written by wip/tools/gen/pot.py.) -/
import Derived.Test.YtehmfkcihieecaaPoV1
import Derived.Lib.ItoaNum
namespace Go.Proofs.Ytehmfkcihieecaa.Po
open Go.RowKit
open Te Te.Tt
open Go (Lit DataW MemPlace keyOf maxLen)

theorem conv1 (W : World) (b : UInt8) : (convert 72 9 (.slice (some ⟨W.heap.size, 0, none⟩) 1 1)).run Try.prog (W.alloc (.cells #[.int .u8 (b.toNat : Nat)] 5)) = .ok (.string ⟨⟨[b]⟩⟩) (W.alloc (.cells #[.int .u8 (b.toNat : Nat)] 5)) :=
  run_convert_bytes_back (P := Try.prog) (W.alloc (.cells #[.int .u8 (b.toNat : Nat)] 5)) 72 9 5 ⟨W.heap.size, 0, none⟩ 1 [b] Try.underlying72 Try.underlying5 Try.underlying9 (fun j hj => by
    obtain rfl : j = 0 := by simp at hj; omega
    rw [Addr.add_lit]
    exact (cell_of_row _ _ _ _ _ _ (heap_alloc_new W _)).trans rfl)
/-- The digits of a number that is written already up to here. -/
def dn (u : Nat) (s : List UInt8) : List UInt8 := if u = 0 ∧ s ≠ [] then s else Lib.decDigits u ++ s
theorem dn_step (u : Nat) (s : List UInt8) (h : 0 < u ∨ s = []) : dn (u / 10) (UInt8.ofNat (48 + u % 10) :: s) = dn u s := by
  have e1 : dn u s = Lib.decDigits u ++ s := by
    unfold dn
    rw [if_neg]
    rintro ⟨h1, h2⟩
    rcases h with h | h
    · omega
    · exact h2 h
  rw [e1]
  unfold dn
  by_cases h10 : u < 10
  · rw [if_pos ⟨by omega, by simp⟩, Lib.decDigits_one h10, Nat.mod_eq_of_lt h10]; rfl
  · rw [if_neg (by omega), show Lib.decDigits u = Lib.decDigits (u / 10) ++ [UInt8.ofNat (48 + u % 10)] by rw [Lib.decDigits, dif_neg h10]]; simp
theorem dn_end (s : List UInt8) (h : s ≠ []) : dn 0 s = s := by unfold dn; rw [if_pos ⟨rfl, h⟩]
theorem dn_len (u : Nat) (s : List UInt8) : s.length ≤ (dn u s).length := by unfold dn; split <;> simp
theorem dig_len {k : Nat} (hk : k ≤ 100) : (Lib.decDigits k).length ≤ 20 := by
  have h1 : ∀ k, k < 10 → (Lib.decDigits k).length = 1 := fun k h => by rw [Lib.decDigits_one h]; rfl
  have h2 : ∀ k, ¬ k < 10 → (Lib.decDigits k).length = (Lib.decDigits (k / 10)).length + 1 := fun k h => by
    rw [show Lib.decDigits k = Lib.decDigits (k / 10) ++ [UInt8.ofNat (48 + k % 10)] by rw [Lib.decDigits, dif_neg h]]; simp
  by_cases h : k < 10
  · rw [h1 k h]; omega
  · rw [h2 k h]
    by_cases h' : k / 10 < 10
    · rw [h1 _ h']; omega
    · rw [h2 _ h', h1 _ (by omega)]; omega
theorem dn_start (u : Nat) : dn u [] = Lib.decDigits u := by unfold dn; simp

set_option maxHeartbeats 1000000 in
set_option maxRecDepth 100000 in
theorem refDigitsP_any (u0 : Nat) (hu : u0 ≤ 100) (w : World) :
    Calls Try.prog 21 #[.int .i64 (u0 : Nat)] w fun e w' => e = .returned (.string ⟨⟨Lib.decDigits u0⟩⟩) ∧ Below w.heap.size w w' := by
  obtain ⟨R, hR⟩ : ∃ R, R = Lib.decDigits u0 := ⟨_, rfl⟩
  have hlen : R.length ≤ 20 := by rw [hR]; exact dig_len hu
  have HR : Hid (R = dn u0 []) := by rw [Hid, hR, dn_start]
  rw [← hR]
  clear hR
  have hneg : ¬ (u0 : Int) < 0 := by omega
  go_enter Try.func21, Try.ntmps21
  go_wp2
  go_loopw [0, 3] (fun nv sv wr => ∃ (u : Nat) (s : List UInt8), u ≤ u0 ∧ nv = .int .i64 (u : Nat) ∧ sv = .string ⟨⟨s⟩⟩ ∧ s.length ≤ 20 ∧ Hid (R = dn u s) ∧ Hid (Below w.heap.size w wr)) (fun nv sv _ => (intOf nv).toNat + (match sv with | .string b => if b.data.toList = [] then 1 else 0 | _ => 0))
  case atStart => exact ⟨u0, [], Nat.le_refl _, rfl, rfl, by simp, HR, Below.refl _ _⟩
  case round =>
    obtain ⟨u, s, hu2, rfl, rfl, hs, HE, HB⟩ := hrel
    by_cases hgo : 0 < u ∨ s = []
    · have hst := dn_step u s hgo
      have hd : u % 10 < 10 := Nat.mod_lt _ (by omega)
      obtain ⟨q, hq⟩ : ∃ q, q = u / 10 := ⟨_, rfl⟩
      obtain ⟨r, hr⟩ : ∃ r, r = u % 10 := ⟨_, rfl⟩
      have hqi : (u : Int).tdiv 10 = (q : Int) := by rw [hq]; rfl
      have hri : (u : Int).tmod 10 = (r : Int) := by rw [hr]; rfl
      have hql : q ≤ u := by omega
      rw [← hq, ← hr] at hst
      rw [← hr] at hd
      obtain ⟨d, hdg⟩ : ∃ d, d = UInt8.ofNat (48 + r) := ⟨_, rfl⟩
      have hb : d.toNat = 48 + r := by rw [hdg, UInt8.toNat_ofNat']; omega
      rw [← hdg] at hst
      have hcv : ∀ W : World, (convert 72 9 (.slice (some ⟨W.heap.size, 0, none⟩) 1 1)).run Try.prog (W.alloc (.cells #[.int .u8 (48 + (r : Int))] 5)) = .ok (.string ⟨⟨[d]⟩⟩) (W.alloc (.cells #[.int .u8 (48 + (r : Int))] 5)) := fun W => by
        have := conv1 W d
        rw [hb] at this
        exact this
      have hw8 : (48 + (r : Int)) % 256 = 48 + (r : Int) := by omega
      have hs1 : ¬ 9223372036854775807 < [d].length + s.length := by simp; omega
      have HST : Hid (R = dn q (d :: s)) := by rw [Hid, hst]; exact HE.out
      have hs20 : (d :: s).length ≤ 20 := by
        have := dn_len q (d :: s)
        rw [← HST.out] at this
        omega
      have hu2i : (u : Int) ≤ 9223372036854775807 := by omega
      have hqu : q < u ∨ (q = 0 ∧ u = 0 ∧ s = []) := by
        rcases hgo with h | h
        · left; omega
        · rcases Nat.eq_zero_or_pos u with h0 | h0
          · right; exact ⟨by omega, h0, h⟩
          · left; omega
      have hr0 : u = 0 → r = 0 := fun e => by omega
      clear hst hq hr hb hdg
      by_cases hup : 0 < u
      · have hui : (0 : Int) < (u : Int) := by omega
        go_wp2
        go_roundw
        case rel => exact ⟨q, d :: s, by omega, rfl, rfl, hs20, HST, HB.out.alloc HB.out.size _⟩
        case measure =>
          simp [intOf]
          split <;> omega
      · obtain rfl : s = [] := by rcases hgo with h | h; omega; exact h
        obtain rfl : u = 0 := by omega
        obtain rfl := hr0 rfl
        have hcv0 : ∀ W : World, (convert 72 9 (.slice (some ⟨W.heap.size, 0, none⟩) 1 1)).run Try.prog (W.alloc (.cells #[.int .u8 48] 5)) = .ok (.string ⟨⟨[d]⟩⟩) (W.alloc (.cells #[.int .u8 48] 5)) := fun W => hcv W
        obtain rfl : q = 0 := by rcases hqu with h | h; omega; exact h.1
        clear hcv hr0 hqu
        go_wp2
        go_roundw
        case rel => exact ⟨0, [d], by omega, rfl, rfl, hs20, HST, HB.out.alloc HB.out.size _⟩
        case measure =>
          simp [intOf]
    · have hu0 : u = 0 := by omega
      have hsn : s ≠ [] := fun e => hgo (.inr e)
      subst hu0
      have hRs : R = s := by rw [HE.out]; exact dn_end s hsn
      have hbeq : (s == []) = false := by simp [hsn]
      have HRS := Lib.hid hRs
      clear hRs HE
      go_wp2
      go_ret
      exact ⟨by rw [HRS.out]; rfl, HB.out⟩

/-- What a name of the law is. -/
def nmk (k : Nat) : Nm := 112 :: Lib.decDigits k
theorem dig_all : ∀ k, (Lib.decDigits k).all nmB = true := by
  intro k
  induction k using Nat.strongRecOn with
  | ind k ih =>
    have hd : ∀ r, r < 10 → nmB (UInt8.ofNat (48 + r)) = true := by decide
    by_cases h10 : k < 10
    · rw [Lib.decDigits_one h10]
      simp only [List.all_cons, List.all_nil, Bool.and_true]
      exact hd k h10
    · rw [Lib.decDigits, dif_neg h10, List.all_append, ih (k / 10) (by omega)]
      simp only [List.all_cons, List.all_nil, Bool.and_true, Bool.true_and]
      exact hd (k % 10) (by omega)
theorem dig_inj : ∀ j k, Lib.decDigits j = Lib.decDigits k → j = k := by
  have hlast : ∀ r, r < 10 → ∀ s, s < 10 → UInt8.ofNat (48 + r) = UInt8.ofNat (48 + s) → r = s := by decide
  have hne : ∀ k, Lib.decDigits k ≠ [] := fun k h => by
    by_cases h10 : k < 10
    · rw [Lib.decDigits_one h10] at h; cases h
    · rw [Lib.decDigits, dif_neg h10] at h; simp at h
  intro j
  induction j using Nat.strongRecOn with
  | ind j ih =>
    intro k h
    by_cases hj : j < 10
    · by_cases hk : k < 10
      · rw [Lib.decDigits_one hj, Lib.decDigits_one hk] at h
        injection h with h
        exact hlast j hj k hk h
      · rw [Lib.decDigits_one hj, show Lib.decDigits k = Lib.decDigits (k / 10) ++ [UInt8.ofNat (48 + k % 10)] by rw [Lib.decDigits, dif_neg hk]] at h
        have hl := congrArg List.length h
        simp at hl
        exact absurd hl (hne _)
    · by_cases hk : k < 10
      · rw [Lib.decDigits_one hk, show Lib.decDigits j = Lib.decDigits (j / 10) ++ [UInt8.ofNat (48 + j % 10)] by rw [Lib.decDigits, dif_neg hj]] at h
        have hl := congrArg List.length h
        simp at hl
        exact absurd hl (hne _)
      · rw [show Lib.decDigits j = Lib.decDigits (j / 10) ++ [UInt8.ofNat (48 + j % 10)] by rw [Lib.decDigits, dif_neg hj], show Lib.decDigits k = Lib.decDigits (k / 10) ++ [UInt8.ofNat (48 + k % 10)] by rw [Lib.decDigits, dif_neg hk]] at h
        obtain ⟨h1, h2⟩ := List.append_inj' h rfl
        have h3 := ih (j / 10) (by omega) (k / 10) h1
        injection h2 with h2
        have h4 := hlast (j % 10) (by omega) (k % 10) (by omega) h2
        omega
theorem nmk_inj {j k : Nat} (h : nmk j = nmk k) : j = k := by
  unfold nmk at h
  injection h with _ h
  exact dig_inj j k h
theorem nmk_ok {k : Nat} (hk : k ≤ 100) : isName (nmk k) = true ∧ (nmk k).length ≤ 21 := by
  have hl : (Lib.decDigits k).length ≤ 20 := dig_len hk
  refine ⟨?_, by simp [nmk]; omega⟩
  unfold isName nmk
  rw [List.all_cons, dig_all]
  simp
  refine ⟨by omega, by decide⟩
end Go.Proofs.Ytehmfkcihieecaa.Po
