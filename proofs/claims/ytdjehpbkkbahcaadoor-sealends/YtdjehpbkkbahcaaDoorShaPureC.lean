/- The plain mathematics of SHA-256: a text that is cut between two blocks. -/
import Derived.Test.YtdjehpbkkbahcaaDoorShaPureB
namespace Sh

theorem cut_left (a c : List UInt8) (k : Nat) (h : (k + 1) * 64 ≤ a.length) : ((a ++ c).drop (k * 64)).take 64 = (a.drop (k * 64)).take 64 := by
  rw [List.drop_append_of_le_length (by omega), List.take_append_of_le_length (by rw [List.length_drop]; omega)]
theorem cut_right (a c : List UInt8) (m k : Nat) (h : a.length = m * 64) : ((a ++ c).drop ((m + k) * 64)).take 64 = (c.drop (k * 64)).take 64 := by
  have : (m + k) * 64 = a.length + k * 64 := by omega
  rw [this, List.drop_append, List.drop_of_length_le (by omega), List.nil_append, Nat.add_sub_cancel_left]
theorem thr_left (v : St) (a c : List UInt8) (k : Nat) (h : k * 64 ≤ a.length) : thr v (a ++ c) k = thr v a k := by
  induction k with
  | zero => rw [thr, thr]
  | succ k ih => rw [thr, thr, ih (by omega), cut_left a c k h]
theorem thr_right (v : St) (a c : List UInt8) (m k : Nat) (h : a.length = m * 64) : thr v (a ++ c) (m + k) = thr (thr v a m) c k := by
  induction k with
  | zero => rw [Nat.add_zero, thr_left v a c m (by omega), thr]
  | succ k ih => rw [← Nat.add_assoc, thr, thr, ih, cut_right a c m k h]
theorem blocks_app (v : St) (a c : List UInt8) (h : a.length % 64 = 0) : blocks v (a ++ c) = blocks (blocks v a) c := by
  have hm : a.length = a.length / 64 * 64 := by omega
  rw [blocks, blocks, blocks, List.length_append, show (a.length + c.length) / 64 = a.length / 64 + c.length / 64 by omega, thr_right v a c _ _ hm]
theorem sum_cut (s : List UInt8) : sum s = txt (blocks (blocks start (s.take (s.length - s.length % 64))) (s.drop (s.length - s.length % 64) ++ pad s.length)) := by
  rw [sum, ← blocks_app _ _ _ (by rw [List.length_take]; omega), ← List.append_assoc, List.take_append_drop]
theorem blocks_ok {v : St} (h : v.Ok) (s : List UInt8) : (blocks v s).Ok := thr_ok h s _
theorem pad_le (n : Nat) : (pad n).length ≤ 72 := by rw [pad_length]; unfold noughts; omega
end Sh
