/- The plain mathematics of a stream of blocks: no program. -/
import Derived.Test.YtdjehpbkkbahcaaDoorAePureC
namespace Ct

/-- A number as four bytes, the greatest first. -/
def num (i : Nat) : List UInt8 := [UInt8.ofNat (i / 16777216), UInt8.ofNat (i / 65536), UInt8.ofNat (i / 256), UInt8.ofNat i]
/-- A block of a stream. -/
def blk (k o : List UInt8) (i : Nat) : List UInt8 := Ae.enc k (o ++ num i)
/-- So many blocks. -/
def blks (k o : List UInt8) : Nat → List UInt8
  | 0 => []
  | c + 1 => blks k o c ++ blk k o c
/-- So many bytes. -/
def str (k o : List UInt8) (n : Nat) : List UInt8 := (blks k o ((n + 15) / 16)).take n
/-- Bytes with bytes. -/
def xr (s t : List UInt8) : List UInt8 := List.zipWith (· ^^^ ·) s t

theorem num_length (i : Nat) : (num i).length = 4 := rfl
theorem blk_length (k o : List UInt8) (i : Nat) : (blk k o i).length = 16 := Ae.enc_length _ _
theorem blks_length (k o : List UInt8) : ∀ c, (blks k o c).length = 16 * c
  | 0 => rfl
  | c + 1 => by rw [blks, List.length_append, blks_length k o c, blk_length]; omega
theorem blks_take (k o : List UInt8) (c : Nat) : ∀ d, (blks k o (c + d)).take (16 * c) = blks k o c
  | 0 => List.take_of_length_le (by rw [blks_length]; exact Nat.le_refl _)
  | d + 1 => by
    rw [show c + (d + 1) = (c + d) + 1 by omega, blks, List.take_append_of_le_length (by rw [blks_length]; omega)]
    exact blks_take k o c d
theorem str_length (k o : List UInt8) (n : Nat) : (str k o n).length = n := by
  rw [str, List.length_take, blks_length]
  omega
theorem str_take (k o : List UInt8) (n c : Nat) (h : n ≤ 16 * c) : (blks k o c).take n = str k o n := by
  have h1 : (n + 15) / 16 ≤ c := by omega
  have h2 : n ≤ 16 * ((n + 15) / 16) := by omega
  rw [str, ← blks_take k o ((n + 15) / 16) (c - (n + 15) / 16), List.take_take, Nat.min_eq_left h2, show (n + 15) / 16 + (c - (n + 15) / 16) = c by omega]
theorem str_begins (k o : List UInt8) {n m : Nat} (h : n ≤ m) : (str k o m).take n = str k o n := by
  rw [str, List.take_take, Nat.min_eq_left h]
  exact str_take k o n _ (by omega)
theorem str_block (k o : List UInt8) (a : Nat) : (str k o (16 * a + 16)).drop (16 * a) = blk k o a := by
  have hl := blks_length k o (a + 1)
  rw [← str_take k o _ (a + 1) (by omega), List.take_of_length_le (by omega), blks, List.drop_append_of_le_length (by rw [blks_length]; exact Nat.le_refl _), List.drop_of_length_le (by rw [blks_length]; exact Nat.le_refl _)]
  rfl
theorem xr_length {s t : List UInt8} (h : s.length = t.length) : (xr s t).length = s.length := by
  rw [xr, List.length_zipWith, h, Nat.min_self]
theorem xr_xr : ∀ {s t : List UInt8}, s.length = t.length → xr (xr s t) t = s
  | [], _, _ => rfl
  | a :: s, [], h => by simp at h
  | a :: s, b :: t, h => by
    have hx : (a ^^^ b) ^^^ b = a := by rw [UInt8.xor_assoc, UInt8.xor_self, UInt8.xor_zero]
    show ((a ^^^ b) ^^^ b) :: xr (xr s t) t = a :: s
    rw [hx, xr_xr (by simpa using h)]
theorem xr_take (s t : List UInt8) (n : Nat) : (xr s t).take n = xr (s.take n) (t.take n) := by
  rw [xr, List.take_zipWith]
  rfl
theorem xr_getD (s t : List UInt8) (n : Nat) (hs : n < s.length) (ht : n < t.length) : (xr s t).getD n 0 = s.getD n 0 ^^^ t.getD n 0 := by
  rw [xr, List.getD_eq_getElem?_getD, List.getElem?_zipWith, List.getElem?_eq_getElem hs, List.getElem?_eq_getElem ht, List.getD_eq_getElem?_getD, List.getElem?_eq_getElem hs, List.getD_eq_getElem?_getD, List.getElem?_eq_getElem ht]
  rfl
set_option maxRecDepth 100000 in
theorem str_ex : (xr (List.replicate 20 0) (str (List.replicate 16 0) (List.replicate 12 0) 20)).take 4 = [102, 233, 75, 212] := by decide +kernel

/-- What Stream answers, at any arguments. -/
def strA (k o : List UInt8) (n : Int) : List UInt8 := if k.length = 16 ∧ o.length = 12 ∧ 0 ≤ n ∧ n ≤ 1048576 then str k o n.toNat else []
theorem strA_yes {k o : List UInt8} {n : Nat} (hk : k.length = 16) (ho : o.length = 12) (hn : n ≤ 1048576) : strA k o (n : Int) = str k o n := by
  rw [strA, if_pos ⟨hk, ho, by omega, by omega⟩, Int.toNat_natCast]
theorem strA_no {k o : List UInt8} {n : Int} (h : ¬ (k.length = 16 ∧ o.length = 12 ∧ 0 ≤ n ∧ n ≤ 1048576)) : strA k o n = [] := if_neg h
theorem strA_le (k o : List UInt8) (n : Int) : (strA k o n).length ≤ 1048576 := by
  rw [strA]
  split
  · rw [str_length]; omega
  · exact Nat.zero_le _
theorem strA_len (k o : List UInt8) (n : Nat) : (strA k o (n : Int)).length = n ∨ strA k o (n : Int) = [] := by
  by_cases h : k.length = 16 ∧ o.length = 12 ∧ 0 ≤ (n : Int) ∧ (n : Int) ≤ 1048576
  · exact .inl (by rw [strA, if_pos h, Int.toNat_natCast, str_length])
  · exact .inr (strA_no h)
/-- What Cipher answers. -/
def cipA (k o s : List UInt8) : List UInt8 := xr s (strA k o (s.length : Int))
theorem cipA_length (k o s : List UInt8) : (cipA k o s).length = (strA k o (s.length : Int)).length := by
  rw [cipA, xr, List.length_zipWith]
  rcases strA_len k o s.length with h | h
  · rw [h, Nat.min_self]
  · rw [h]; simp
theorem cipA_yes {k o s : List UInt8} (hk : k.length = 16) (ho : o.length = 12) (hs : s.length ≤ 1048576) : cipA k o s = xr s (str k o s.length) := by
  rw [cipA, strA_yes hk ho hs]
theorem cipA_no {k o s : List UInt8} (h : ¬ (k.length = 16 ∧ o.length = 12)) : cipA k o s = [] := by
  rw [cipA, strA_no (fun h1 => h ⟨h1.1, h1.2.1⟩)]
  simp [xr]
theorem cipA_full {k o s : List UInt8} (hk : k.length = 16) (ho : o.length = 12) (hs : s.length ≤ 1048576) : (cipA k o s).length = s.length := by
  rw [cipA_length, strA_yes hk ho hs, str_length]
theorem cipA_twice {k o s : List UInt8} (hk : k.length = 16) (ho : o.length = 12) (hs : s.length ≤ 1048576) : cipA k o (cipA k o s) = s := by
  have hl := cipA_full hk ho hs
  rw [cipA, hl, strA_yes hk ho hs, cipA_yes hk ho hs]
  exact xr_xr (by rw [str_length])
theorem cipA_take {k o s : List UInt8} {n : Nat} (hk : k.length = 16) (ho : o.length = 12) (hs : s.length ≤ 1048576) (hn : n ≤ s.length) : (cipA k o s).take n = cipA k o (s.take n) := by
  have hl : (s.take n).length = n := by simp; omega
  rw [cipA_yes hk ho hs, cipA_yes hk ho (by omega), xr_take, str_begins k o hn, hl]
end Ct
