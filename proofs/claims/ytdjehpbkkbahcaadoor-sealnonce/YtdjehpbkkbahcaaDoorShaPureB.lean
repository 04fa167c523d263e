/- The plain mathematics of SHA-256: a block's words, one by one. -/
import Derived.Test.YtdjehpbkkbahcaaDoorShaPureA
namespace Sh

theorem sp_take (b : List UInt8) (n k : Nat) (h : k ≤ n) : (sp b n).take k = sp b k := by
  induction n with
  | zero =>
    obtain rfl : k = 0 := by omega
    rfl
  | succ n ih =>
    by_cases hk : k = n + 1
    · subst hk
      exact List.take_of_length_le (by rw [sp_length]; omega)
    · rw [sp, List.take_append_of_le_length (by rw [sp_length]; omega)]
      exact ih (by omega)
theorem getD_take {l : List Nat} {k j : Nat} (h : j < k) : (l.take k).getD j 0 = l.getD j 0 := by
  simp [List.getD_eq_getElem?_getD, h]
theorem nxt_take (l : List Nat) (k : Nat) (h : 16 ≤ k) : nxt (l.take k) k = nxt l k := by
  unfold nxt
  rw [getD_take (by omega), getD_take (by omega), getD_take (by omega), getD_take (by omega)]
theorem sp_get (b : List UInt8) (k : Nat) (h : k < 64) : (sp b 64).getD k 0 = if k < 16 then word (b.drop (4 * k)) else nxt (sp b 64) k := by
  have h1 : (sp b 64).getD k 0 = (sp b (k + 1)).getD k 0 := by
    rw [← sp_take b 64 (k + 1) (by omega), getD_take (by omega)]
  rw [h1, sp, List.getD_eq_getElem?_getD, List.getElem?_append_right (by rw [sp_length]; omega), sp_length, Nat.sub_self]
  show (if k < 16 then word (b.drop (4 * k)) else nxt (sp b k) k) = _
  split
  · rfl
  · rw [← sp_take b 64 k (by omega), nxt_take _ _ (by omega)]
end Sh
