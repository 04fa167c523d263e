/- Plain mathematics: bounds of what is read. -/
import Derived.Test.YtmjpjbnaahdcmaaPure
namespace Go.Proofs.Ytmjpjbnaahdcmaa
namespace Wr

theorem rl_bound : ∀ (s : List UInt8) (n k m j : Nat), rl n k s = .ok (m, j) → k < j ∧ j ≤ k + s.length ∧ m ≤ 65663
  | [], n, k, m, j, h => by
    rw [rl] at h
    split at h <;> cases h
  | b :: r, n, k, m, j, h => by
    rw [rl] at h
    have hb : b.toNat < 256 := UInt8.toNat_lt b
    split at h
    · cases h
    split at h
    · cases h
    split at h
    · have := rl_bound r _ _ _ _ h
      simp only [List.length_cons]
      omega
    · injection h with h
      injection h with h1 h2
      simp only [List.length_cons]
      omega

theorem rd_bound {f : Nat} {s : List UInt8} {a n : Nat} {x : It} (h : rd f s a = .ok (x, n)) : 2 ≤ n ∧ n ≤ s.length ∧ a + n ≤ 65536 := by
  match f, s with
  | 0, _ => rw [rd] at h; cases h
  | _ + 1, [] => rw [rd] at h; cases h
  | f + 1, b :: r =>
    rw [rd] at h
    split at h
    · cases h
    split at h
    · cases h
    · rename_i m k hr
      have hb := rl_bound _ _ _ _ _ hr
      split at h
      · cases h
      split at h
      · cases h
      split at h
      · injection h with h
        injection h with h1 h2
        simp only [List.length_cons]
        omega
      split at h
      · cases h
      · injection h with h
        injection h with h1 h2
        simp only [List.length_cons]
        omega

theorem rl_err : ∀ (s : List UInt8) (n k : Nat) (e : Int), rl n k s = .error e → 10 ≤ e ∧ e ≤ 13
  | [], n, k, e, h => by
    rw [rl] at h
    split at h <;> (injection h with h; omega)
  | b :: r, n, k, e, h => by
    rw [rl] at h
    split at h
    · injection h with h; omega
    split at h
    · injection h with h; omega
    split at h
    · exact rl_err r _ _ _ h
    · cases h

theorem rda_err_of {R : List UInt8 → Nat → Except Int (It × Nat)} (hR : ∀ s a e, R s a = .error e → 1 ≤ e ∧ e ≤ 13) : ∀ (g : Nat) (s : List UInt8) (a : Nat) (e : Int), rda R g s a = .error e → 1 ≤ e ∧ e ≤ 13
  | g, [], a, e, h => by cases g <;> (rw [rda] at h; cases h)
  | 0, b :: s, a, e, h => by rw [rda] at h; injection h with h; omega
  | g + 1, b :: s, a, e, h => by
    rw [rda] at h
    split at h
    · rename_i e' h1
      have := hR _ _ _ h1
      injection h with h
      split at h <;> omega
    · rename_i x n h1
      split at h
      · rename_i e' h2
        have := rda_err_of hR g _ _ _ h2
        injection h with h
        omega
      · cases h

theorem rd_err : ∀ (f : Nat) (s : List UInt8) (a : Nat) (e : Int), rd f s a = .error e → 1 ≤ e ∧ e ≤ 13
  | 0, _, _, e, h => by rw [rd] at h; injection h with h; omega
  | _ + 1, [], _, e, h => by rw [rd] at h; injection h with h; omega
  | f + 1, b :: r, a, e, h => by
    rw [rd] at h
    split at h
    · injection h with h; omega
    split at h
    · rename_i e' hr
      have := rl_err _ _ _ _ hr
      injection h with h; omega
    · split at h
      · injection h with h; omega
      split at h
      · injection h with h; omega
      split at h
      · cases h
      split at h
      · rename_i e' hr
        have := rda_err_of (rd_err f) _ _ _ _ hr
        injection h with h; omega
      · cases h

/-- What is read already stands ahead. -/
def pre (l : List It) : Except Int (List It) → Except Int (List It)
  | .error e => .error e
  | .ok m => .ok (l ++ m)

theorem pre_nil (r : Except Int (List It)) : pre [] r = r := by cases r <;> rfl
theorem pre_pre (l m : List It) (r : Except Int (List It)) : pre l (pre m r) = pre (l ++ m) r := by cases r <;> simp [pre]

theorem rda_err {R : List UInt8 → Nat → Except Int (It × Nat)} {g : Nat} {b : UInt8} {s : List UInt8} {a : Nat} {e : Int} (h : R (b :: s) a = .error e) :
    rda R (g + 1) (b :: s) a = .error (if e = 10 then 13 else e) := by rw [rda, h]
theorem rda_ok {R : List UInt8 → Nat → Except Int (It × Nat)} {g : Nat} {b : UInt8} {s : List UInt8} {a n : Nat} {x : It} (h : R (b :: s) a = .ok (x, n)) :
    rda R (g + 1) (b :: s) a = pre [x] (rda R g ((b :: s).drop n) (a + n)) := by
  rw [rda, h]
  simp only
  cases rda R g ((b :: s).drop n) (a + n) <;> rfl
theorem rda_nil {R : List UInt8 → Nat → Except Int (It × Nat)} {g a : Nat} : rda R g [] a = .ok [] := by cases g <;> rw [rda]
end Wr
end Go.Proofs.Ytmjpjbnaahdcmaa
