/- Plain mathematics: sizes of what is written. -/
import Derived.Test.YtmjpjbnaahdcmaaPureA
namespace Go.Proofs.Ytmjpjbnaahdcmaa
namespace Wr

theorem la_len (n : Nat) : (la n).length = dg n := by
  induction n using Nat.strongRecOn with
  | ind n ih =>
    rw [la, dg]
    by_cases h : n < 128
    · simp [h]
    · simp [h, ih (n / 128) (by omega)]

theorem lb_len (n : Nat) : (lb n).length = dg n := by
  unfold lb
  by_cases h : n < 128
  · rw [dg]; simp [h]
  · rw [dg]; simp [h, la_len]

theorem sz_some {n : Bool} {t : Int} {s : List UInt8} {l : List It} {d m : Nat} (h : sz (.mk n t s l) d = some m) :
    d ≤ 32 ∧ 1 ≤ t ∧ t < 128 ∧ m ≤ 65536 ∧ ((n = false ∧ l = [] ∧ m = s.length + 1 + dg s.length) ∨ (n = true ∧ s = [] ∧ ∃ b, szs l (d + 1) 0 = some b ∧ m = b + 1 + dg b)) := by
  rw [sz] at h
  split at h
  · cases h
  rename_i h0
  refine ⟨by omega, by omega, by omega, ?_⟩
  cases n with
  | false =>
    by_cases hl : l.length = 0
    · simp [hl] at h
      exact ⟨by omega, .inl ⟨rfl, List.eq_nil_of_length_eq_zero hl, by omega⟩⟩
    · simp [hl] at h
  | true =>
    by_cases hs : s.length = 0
    · have hs' := List.eq_nil_of_length_eq_zero hs
      subst hs'
      cases hz : szs l (d + 1) 0 with
      | none => simp [hz] at h
      | some b =>
        simp [hz] at h
        exact ⟨by omega, .inr ⟨rfl, rfl, b, rfl, by omega⟩⟩
    · simp [hs] at h

theorem szs_cons {x : It} {r : List It} {d a b : Nat} (h : szs (x :: r) d a = some b) : ∃ m, sz x d = some m ∧ a + m ≤ 65536 ∧ szs r d (a + m) = some b := by
  rw [szs] at h
  split at h
  · cases h
  · rename_i m hm
    split at h
    · cases h
    · exact ⟨m, hm, by omega, h⟩

theorem wr_mk (n : Bool) (t : Int) (s : List UInt8) (l : List It) : wr (.mk n t s l) = tb n t :: (lb (s ++ wrs l).length ++ (s ++ wrs l)) := by rw [wr]
theorem wrs_nil : wrs [] = [] := by rw [wrs]
theorem wrs_cons (x : It) (r : List It) : wrs (x :: r) = wr x ++ wrs r := by rw [wrs]

theorem sz_len : ∀ (x : It) (d m : Nat), sz x d = some m → (wr x).length = m := fun x =>
  It.rec (motive_1 := fun x => ∀ (d m : Nat), sz x d = some m → (wr x).length = m) (motive_2 := fun l => ∀ (d a b : Nat), szs l d a = some b → a + (wrs l).length = b)
    (fun n t s l hl d m h => by
      obtain ⟨_, _, _, _, h⟩ := sz_some h
      rw [wr_mk]
      rcases h with ⟨_, rfl, rfl⟩ | ⟨_, rfl, b, hb, rfl⟩
      · simp [wrs_nil, lb_len]; omega
      · have := hl (d + 1) 0 b hb
        simp [lb_len]
        rw [show (wrs l).length = b by omega]
        omega)
    (fun d a b h => by rw [szs] at h; simpa [wrs_nil] using h)
    (fun x l hx hl d a b h => by
      obtain ⟨m, hm, _, hr⟩ := szs_cons h
      have := hx d m hm
      have := hl d _ b hr
      rw [wrs_cons]
      simp
      omega) x

theorem szs_len : ∀ (l : List It) (d a b : Nat), szs l d a = some b → a + (wrs l).length = b
  | [], d, a, b, h => by rw [szs] at h; simpa [wrs_nil] using h
  | x :: r, d, a, b, h => by
    obtain ⟨m, hm, _, hr⟩ := szs_cons h
    have := sz_len x d m hm
    have := szs_len r d _ b hr
    rw [wrs_cons]
    simp
    omega

theorem szs_mem : ∀ (l : List It) (d a b : Nat), szs l d a = some b → ∀ y ∈ l, ∃ m, sz y d = some m
  | [], _, _, _, _, y, hy => by simp at hy
  | x :: r, d, a, b, h, y, hy => by
    obtain ⟨m, hm, _, hr⟩ := szs_cons h
    rcases List.mem_cons.1 hy with rfl | hy
    · exact ⟨m, hm⟩
    · exact szs_mem r d _ b hr y hy

theorem wrs_take_succ (l : List It) (i : Nat) (h : i < l.length) : wrs (l.take (i + 1)) = wrs (l.take i) ++ wr l[i] := by
  induction l generalizing i with
  | nil => simp at h
  | cons x r ih =>
    cases i with
    | zero => simp [wrs_cons, wrs_nil]
    | succ i =>
      simp only [List.take_succ_cons, wrs_cons, List.getElem_cons_succ]
      rw [ih i (by simpa using h), List.append_assoc]

theorem wrs_take_le (l : List It) (i : Nat) : (wrs (l.take i)).length ≤ (wrs l).length := by
  induction l generalizing i with
  | nil => simp
  | cons x r ih =>
    cases i with
    | zero => simp [wrs_nil]
    | succ i =>
      simp only [List.take_succ_cons, wrs_cons, List.length_append]
      have := ih i
      omega

theorem wr_pos (x : It) : 2 ≤ (wr x).length := by
  cases x with
  | mk n t s l =>
    rw [wr_mk]
    simp [lb_len]
    rw [dg]
    split <;> omega
end Wr
end Go.Proofs.Ytmjpjbnaahdcmaa
