/- Blocks and keys: plain mathematics. -/
import Derived.Test.YticofjbngfjjlaaGreatDoorGAAePure
import Derived.Test.YticofjbngfjjlaaGreatDoorGATmPure
import Derived.Test.YticofjbngfjjlaaGreatDoorGATmQ
import Derived.Test.YticofjbngfjjlaaGreatDoorRows
import Derived.WalkKit
import Derived.Below
import Derived.BigQuiet
import Derived.Deep.QuietTactic
import Derived.Lib.Hide
import Derived.IntWalk
namespace Ae

/-- 16 bytes by a function of their place. -/
def mk16 (f : Nat → UInt8) : List UInt8 := (List.range 16).map f
theorem mk16_length (f : Nat → UInt8) : (mk16 f).length = 16 := by simp [mk16]
theorem mk16_at (f : Nat → UInt8) (i : Nat) (h : i < 16) : (mk16 f).getD i 0 = f i := by
  simp [mk16, List.getD_eq_getElem?_getD, h]
theorem ext16 {a b : List UInt8} (ha : a.length = 16) (hb : b.length = 16) (h : ∀ i, i < 16 → a.getD i 0 = b.getD i 0) : a = b := by
  apply List.ext_getElem (by omega)
  intro i h1 h2
  have := h i (by omega)
  rw [List.getD_eq_getElem?_getD, List.getD_eq_getElem?_getD, List.getElem?_eq_getElem h1, List.getElem?_eq_getElem h2] at this
  exact this

def plus (s k : List UInt8) : List UInt8 := mk16 fun i => s.getD i 0 ^^^ k.getD i 0
def swapped (s : List UInt8) : List UInt8 := mk16 fun i => sw (s.getD i 0)
def turned (s : List UInt8) : List UInt8 := mk16 fun i => s.getD ((i / 4 + i % 4) % 4 * 4 + i % 4) 0
def mixAt (s : List UInt8) (c r : Nat) : UInt8 := tw (s.getD (4 * c + r) 0) ^^^ th (s.getD (4 * c + (r + 1) % 4) 0) ^^^ s.getD (4 * c + (r + 2) % 4) 0 ^^^ s.getD (4 * c + (r + 3) % 4) 0
def mixed (s : List UInt8) : List UInt8 := mk16 fun i => mixAt s (i / 4) (i % 4)
theorem plus_length (s k : List UInt8) : (plus s k).length = 16 := mk16_length _
theorem swapped_length (s : List UInt8) : (swapped s).length = 16 := mk16_length _
theorem turned_length (s : List UInt8) : (turned s).length = 16 := mk16_length _
theorem mixed_length (s : List UInt8) : (mixed s).length = 16 := mk16_length _

theorem plus_inj {a b k : List UInt8} (ha : a.length = 16) (hb : b.length = 16) (h : plus a k = plus b k) : a = b := by
  refine ext16 ha hb fun i hi => ?_
  have := congrArg (fun l => l.getD i 0) h
  simp only [plus, mk16_at _ i hi] at this
  exact xor_inj_right this
theorem swapped_inj {a b : List UInt8} (ha : a.length = 16) (hb : b.length = 16) (h : swapped a = swapped b) : a = b := by
  refine ext16 ha hb fun i hi => ?_
  have := congrArg (fun l => l.getD i 0) h
  simp only [swapped, mk16_at _ i hi] at this
  exact sw_inj this
theorem turn_at : ∀ i, i < 16 → (((i / 4 + (4 - i % 4)) % 4 * 4 + i % 4) / 4 + ((i / 4 + (4 - i % 4)) % 4 * 4 + i % 4) % 4) % 4 * 4 + ((i / 4 + (4 - i % 4)) % 4 * 4 + i % 4) % 4 = i ∧ (i / 4 + (4 - i % 4)) % 4 * 4 + i % 4 < 16 := by decide
theorem turned_inj {a b : List UInt8} (ha : a.length = 16) (hb : b.length = 16) (h : turned a = turned b) : a = b := by
  refine ext16 ha hb fun i hi => ?_
  obtain ⟨h1, h2⟩ := turn_at i hi
  have := congrArg (fun l => l.getD ((i / 4 + (4 - i % 4)) % 4 * 4 + i % 4) 0) h
  simp only [turned, mk16_at _ _ h2] at this
  rw [h1] at this
  exact this

/-- A column mixed: four times is nothing. -/
def m0 (a b c d : UInt8) : UInt8 := tw a ^^^ th b ^^^ c ^^^ d
def f2 (a : UInt8) : UInt8 := tw (tw a)
theorem f2_xor (a b : UInt8) : f2 (a ^^^ b) = f2 a ^^^ f2 b := by rw [f2, f2, f2, tw_xor, tw_xor]
theorem m0_twice (a b c d : UInt8) : m0 (m0 a b c d) (m0 b c d a) (m0 c d a b) (m0 d a b c) = a ^^^ f2 (a ^^^ c) := by
  simp only [m0, th, f2, tw_xor]
  generalize tw (tw a) = a2
  generalize tw (tw b) = b2
  generalize tw (tw c) = c2
  generalize tw a = a1
  generalize tw b = b1
  generalize tw c = c1
  generalize tw d = d1
  simp only [xor_comm, xor_left_comm, xor_cancel, xor_self, xor_zero]
theorem q_twice (a c : UInt8) : (a ^^^ f2 (a ^^^ c)) ^^^ f2 ((a ^^^ f2 (a ^^^ c)) ^^^ (c ^^^ f2 (c ^^^ a))) = a := by
  rw [xor_comm c a]
  generalize hx : f2 (a ^^^ c) = x
  rw [show (a ^^^ x) ^^^ (c ^^^ x) = a ^^^ c by rw [xor4, xor_self, xor_zero], hx, xor_assoc, xor_self, xor_zero]
theorem m0_inj {a b c d a' b' c' d' : UInt8} (h0 : m0 a b c d = m0 a' b' c' d') (h1 : m0 b c d a = m0 b' c' d' a') (h2 : m0 c d a b = m0 c' d' a' b') (h3 : m0 d a b c = m0 d' a' b' c') : a = a' := by
  have e0 := m0_twice a b c d
  have e2 := m0_twice c d a b
  rw [h0, h1, h2, h3, m0_twice] at e0
  rw [h0, h1, h2, h3, m0_twice] at e2
  rw [← q_twice a c, ← q_twice a' c', ← e0, ← e2]
theorem mixAt_m0 (s : List UInt8) (c : Nat) : mixAt s c 0 = m0 (s.getD (4 * c) 0) (s.getD (4 * c + 1) 0) (s.getD (4 * c + 2) 0) (s.getD (4 * c + 3) 0) ∧ mixAt s c 1 = m0 (s.getD (4 * c + 1) 0) (s.getD (4 * c + 2) 0) (s.getD (4 * c + 3) 0) (s.getD (4 * c) 0) ∧ mixAt s c 2 = m0 (s.getD (4 * c + 2) 0) (s.getD (4 * c + 3) 0) (s.getD (4 * c) 0) (s.getD (4 * c + 1) 0) ∧ mixAt s c 3 = m0 (s.getD (4 * c + 3) 0) (s.getD (4 * c) 0) (s.getD (4 * c + 1) 0) (s.getD (4 * c + 2) 0) := ⟨rfl, rfl, rfl, rfl⟩
theorem mixed_inj {a b : List UInt8} (ha : a.length = 16) (hb : b.length = 16) (h : mixed a = mixed b) : a = b := by
  have e : ∀ c, c < 4 → ∀ r, r < 4 → mixAt a c r = mixAt b c r := by
    intro c hc r hr
    have := congrArg (fun l => l.getD (4 * c + r) 0) h
    simp only [mixed, mk16_at _ (4 * c + r) (by omega)] at this
    rw [show (4 * c + r) / 4 = c by omega, show (4 * c + r) % 4 = r by omega] at this
    exact this
  refine ext16 ha hb fun i hi => ?_
  have hc : i / 4 < 4 := by omega
  have e0 := e _ hc 0 (by decide)
  have e1 := e _ hc 1 (by decide)
  have e2 := e _ hc 2 (by decide)
  have e3 := e _ hc 3 (by decide)
  obtain ⟨a0, a1, a2, a3⟩ := mixAt_m0 a (i / 4)
  obtain ⟨b0, b1, b2, b3⟩ := mixAt_m0 b (i / 4)
  rw [a0, b0] at e0
  rw [a1, b1] at e1
  rw [a2, b2] at e2
  rw [a3, b3] at e3
  have hi4 : i % 4 < 4 := by omega
  have hx : i = 4 * (i / 4) + i % 4 := by omega
  generalize i / 4 = c at *
  generalize i % 4 = r at *
  subst hx
  match r, hi4 with
  | 0, _ => exact m0_inj e0 e1 e2 e3
  | 1, _ => exact m0_inj e1 e2 e3 e0
  | 2, _ => exact m0_inj e2 e3 e0 e1
  | 3, _ => exact m0_inj e3 e0 e1 e2

/-- The word ahead, as it is added. -/
def lst (L : List UInt8) (n : Nat) : List UInt8 :=
  let a := L.getD (12 + 4 * n) 0
  let b := L.getD (13 + 4 * n) 0
  let c := L.getD (14 + 4 * n) 0
  let d := L.getD (15 + 4 * n) 0
  if n % 4 = 0 then [sw b ^^^ twi (n / 4) 1, sw c, sw d, sw a] else [a, b, c, d]
def nw (L : List UInt8) (n : Nat) : List UInt8 :=
  [L.getD (4 * n) 0 ^^^ (lst L n).getD 0 0, L.getD (4 * n + 1) 0 ^^^ (lst L n).getD 1 0, L.getD (4 * n + 2) 0 ^^^ (lst L n).getD 2 0, L.getD (4 * n + 3) 0 ^^^ (lst L n).getD 3 0]
/-- The first 16 + 4 n bytes of all keys. -/
def KS (key : List UInt8) : Nat → List UInt8
  | 0 => key
  | n + 1 => KS key n ++ nw (KS key n) n
def ex (key : List UInt8) : List UInt8 := KS key 40
theorem lst_length (L : List UInt8) (n : Nat) : (lst L n).length = 4 := by
  unfold lst
  split <;> rfl
theorem nw_length (L : List UInt8) (n : Nat) : (nw L n).length = 4 := rfl
theorem KS_length (key : List UInt8) (h : key.length = 16) (n : Nat) : (KS key n).length = 16 + 4 * n := by
  induction n with
  | zero => exact h
  | succ n ih => rw [KS, List.length_append, ih, nw_length]; omega
theorem ex_length (key : List UInt8) (h : key.length = 16) : (ex key).length = 176 := KS_length key h 40
theorem getD_app_left (a b : List UInt8) (i : Nat) (h : i < a.length) : (a ++ b).getD i 0 = a.getD i 0 := by
  rw [List.getD_eq_getElem?_getD, List.getD_eq_getElem?_getD, List.getElem?_append_left h]
theorem getD_app_right (a b : List UInt8) (i : Nat) (h : a.length ≤ i) : (a ++ b).getD i 0 = b.getD (i - a.length) 0 := by
  rw [List.getD_eq_getElem?_getD, List.getD_eq_getElem?_getD, List.getElem?_append_right h]
theorem KS_more (key : List UInt8) (h : key.length = 16) (n m i : Nat) (hi : i < 16 + 4 * n) : (KS key (n + m)).getD i 0 = (KS key n).getD i 0 := by
  induction m with
  | zero => rfl
  | succ m ih => rw [← Nat.add_assoc, KS, getD_app_left _ _ _ (by rw [KS_length key h]; omega), ih]
theorem KS_ex (key : List UInt8) (h : key.length = 16) (n i : Nat) (hn : n ≤ 40) (hi : i < 16 + 4 * n) : (ex key).getD i 0 = (KS key n).getD i 0 := by
  have := KS_more key h n (40 - n) i hi
  rw [show n + (40 - n) = 40 by omega] at this
  exact this
theorem nw_at (L : List UInt8) (n : Nat) : ∀ j, j < 4 → (nw L n).getD j 0 = L.getD (4 * n + j) 0 ^^^ (lst L n).getD j 0
  | 0, _ => rfl | 1, _ => rfl | 2, _ => rfl | 3, _ => rfl
  | j + 4, h => absurd h (by omega)
theorem lst_yes (L : List UInt8) (n : Nat) (h : n % 4 = 0) : lst L n = [sw (L.getD (13 + 4 * n) 0) ^^^ twi (n / 4) 1, sw (L.getD (14 + 4 * n) 0), sw (L.getD (15 + 4 * n) 0), sw (L.getD (12 + 4 * n) 0)] := if_pos h
theorem lst_no (L : List UInt8) (n : Nat) (h : n % 4 ≠ 0) : lst L n = [L.getD (12 + 4 * n) 0, L.getD (13 + 4 * n) 0, L.getD (14 + 4 * n) 0, L.getD (15 + 4 * n) 0] := if_neg h

def rest (s : List UInt8) (i : Nat) : List UInt8 := if i < 10 then mixed (turned (swapped s)) else turned (swapped s)
def key16 (k : List UInt8) (i : Nat) : List UInt8 := (k.drop (16 * i)).take 16
/-- The state behind i rounds. -/
def St (k block : List UInt8) : Nat → List UInt8
  | 0 => plus block (key16 k 0)
  | i + 1 => plus (rest (St k block i) (i + 1)) (key16 k (i + 1))
def enc (key block : List UInt8) : List UInt8 := St (ex key) block 10
theorem rest_length (s : List UInt8) (i : Nat) : (rest s i).length = 16 := by
  unfold rest
  split
  · exact mixed_length _
  · exact turned_length _
theorem St_length (k block : List UInt8) (i : Nat) : (St k block i).length = 16 := by
  cases i <;> exact plus_length _ _
theorem enc_length (key block : List UInt8) : (enc key block).length = 16 := St_length _ _ _
theorem rest_inj {a b : List UInt8} {i : Nat} (ha : a.length = 16) (hb : b.length = 16) (h : rest a i = rest b i) : a = b := by
  unfold rest at h
  refine swapped_inj ha hb (turned_inj (swapped_length _) (swapped_length _) ?_)
  split at h
  · exact mixed_inj (turned_length _) (turned_length _) h
  · exact h
theorem St_inj {k a b : List UInt8} (ha : a.length = 16) (hb : b.length = 16) (i : Nat) (h : St k a i = St k b i) : a = b := by
  induction i with
  | zero => exact plus_inj ha hb h
  | succ i ih => exact ih (rest_inj (St_length _ _ _) (St_length _ _ _) (plus_inj (rest_length _ _) (rest_length _ _) h))
theorem enc_inj {key a b : List UInt8} (ha : a.length = 16) (hb : b.length = 16) (h : enc key a = enc key b) : a = b := St_inj ha hb 10 h
theorem enc_ex : enc [0, 1, 2, 3, 4, 5, 6, 7, 8, 9, 10, 11, 12, 13, 14, 15] [0, 17, 34, 51, 68, 85, 102, 119, 136, 153, 170, 187, 204, 221, 238, 255] = [105, 196, 224, 216, 106, 123, 4, 48, 216, 205, 183, 128, 112, 180, 197, 90] := by decide +kernel
theorem tm_ex : tm 87 131 = 193 := by decide +kernel
theorem sw_ex : sw 0 = 99 := by decide +kernel
end Ae

/- The plain mathematics of a stream of blocks: no program. -/

namespace Ct

/-- A number as four bytes, the greatest first. -/
def num (i : Nat) : List UInt8 := [UInt8.ofNat (i / 16777216), UInt8.ofNat (i / 65536), UInt8.ofNat (i / 256), UInt8.ofNat i]
/-- A block of a stream. -/
def blk (k o : List UInt8) (i : Nat) : List UInt8 := Ae.enc k (o ++ num i)
/-- So many blocks. -/
def blks (k o : List UInt8) : Nat → List UInt8
  | 0 => []
  | c + 1 => blks k o c ++ blk k o c
/-- So many bytes. -/
def str (k o : List UInt8) (n : Nat) : List UInt8 := (blks k o ((n + 15) / 16)).take n
/-- Bytes with bytes. -/
def xr (s t : List UInt8) : List UInt8 := List.zipWith (· ^^^ ·) s t

theorem num_length (i : Nat) : (num i).length = 4 := rfl
theorem blk_length (k o : List UInt8) (i : Nat) : (blk k o i).length = 16 := Ae.enc_length _ _
theorem blks_length (k o : List UInt8) : ∀ c, (blks k o c).length = 16 * c
  | 0 => rfl
  | c + 1 => by rw [blks, List.length_append, blks_length k o c, blk_length]; omega
theorem blks_take (k o : List UInt8) (c : Nat) : ∀ d, (blks k o (c + d)).take (16 * c) = blks k o c
  | 0 => List.take_of_length_le (by rw [blks_length]; exact Nat.le_refl _)
  | d + 1 => by
    rw [show c + (d + 1) = (c + d) + 1 by omega, blks, List.take_append_of_le_length (by rw [blks_length]; omega)]
    exact blks_take k o c d
theorem str_length (k o : List UInt8) (n : Nat) : (str k o n).length = n := by
  rw [str, List.length_take, blks_length]
  omega
theorem str_take (k o : List UInt8) (n c : Nat) (h : n ≤ 16 * c) : (blks k o c).take n = str k o n := by
  have h1 : (n + 15) / 16 ≤ c := by omega
  have h2 : n ≤ 16 * ((n + 15) / 16) := by omega
  rw [str, ← blks_take k o ((n + 15) / 16) (c - (n + 15) / 16), List.take_take, Nat.min_eq_left h2, show (n + 15) / 16 + (c - (n + 15) / 16) = c by omega]
theorem str_begins (k o : List UInt8) {n m : Nat} (h : n ≤ m) : (str k o m).take n = str k o n := by
  rw [str, List.take_take, Nat.min_eq_left h]
  exact str_take k o n _ (by omega)
theorem str_block (k o : List UInt8) (a : Nat) : (str k o (16 * a + 16)).drop (16 * a) = blk k o a := by
  have hl := blks_length k o (a + 1)
  rw [← str_take k o _ (a + 1) (by omega), List.take_of_length_le (by omega), blks, List.drop_append_of_le_length (by rw [blks_length]; exact Nat.le_refl _), List.drop_of_length_le (by rw [blks_length]; exact Nat.le_refl _)]
  rfl
theorem xr_length {s t : List UInt8} (h : s.length = t.length) : (xr s t).length = s.length := by
  rw [xr, List.length_zipWith, h, Nat.min_self]
theorem xr_xr : ∀ {s t : List UInt8}, s.length = t.length → xr (xr s t) t = s
  | [], _, _ => rfl
  | a :: s, [], h => by simp at h
  | a :: s, b :: t, h => by
    have hx : (a ^^^ b) ^^^ b = a := by rw [UInt8.xor_assoc, UInt8.xor_self, UInt8.xor_zero]
    show ((a ^^^ b) ^^^ b) :: xr (xr s t) t = a :: s
    rw [hx, xr_xr (by simpa using h)]
theorem xr_take (s t : List UInt8) (n : Nat) : (xr s t).take n = xr (s.take n) (t.take n) := by
  rw [xr, List.take_zipWith]
  rfl
theorem xr_getD (s t : List UInt8) (n : Nat) (hs : n < s.length) (ht : n < t.length) : (xr s t).getD n 0 = s.getD n 0 ^^^ t.getD n 0 := by
  rw [xr, List.getD_eq_getElem?_getD, List.getElem?_zipWith, List.getElem?_eq_getElem hs, List.getElem?_eq_getElem ht, List.getD_eq_getElem?_getD, List.getElem?_eq_getElem hs, List.getD_eq_getElem?_getD, List.getElem?_eq_getElem ht]
  rfl
set_option maxRecDepth 100000 in
theorem str_ex : (xr (List.replicate 20 0) (str (List.replicate 16 0) (List.replicate 12 0) 20)).take 4 = [102, 233, 75, 212] := by decide +kernel

/-- What Stream answers, at any arguments. -/
def strA (k o : List UInt8) (n : Int) : List UInt8 := if k.length = 16 ∧ o.length = 12 ∧ 0 ≤ n ∧ n ≤ 1048576 then str k o n.toNat else []
theorem strA_yes {k o : List UInt8} {n : Nat} (hk : k.length = 16) (ho : o.length = 12) (hn : n ≤ 1048576) : strA k o (n : Int) = str k o n := by
  rw [strA, if_pos ⟨hk, ho, by omega, by omega⟩, Int.toNat_natCast]
theorem strA_no {k o : List UInt8} {n : Int} (h : ¬ (k.length = 16 ∧ o.length = 12 ∧ 0 ≤ n ∧ n ≤ 1048576)) : strA k o n = [] := if_neg h
theorem strA_le (k o : List UInt8) (n : Int) : (strA k o n).length ≤ 1048576 := by
  rw [strA]
  split
  · rw [str_length]; omega
  · exact Nat.zero_le _
theorem strA_len (k o : List UInt8) (n : Nat) : (strA k o (n : Int)).length = n ∨ strA k o (n : Int) = [] := by
  by_cases h : k.length = 16 ∧ o.length = 12 ∧ 0 ≤ (n : Int) ∧ (n : Int) ≤ 1048576
  · exact .inl (by rw [strA, if_pos h, Int.toNat_natCast, str_length])
  · exact .inr (strA_no h)
/-- What Cipher answers. -/
def cipA (k o s : List UInt8) : List UInt8 := xr s (strA k o (s.length : Int))
theorem cipA_length (k o s : List UInt8) : (cipA k o s).length = (strA k o (s.length : Int)).length := by
  rw [cipA, xr, List.length_zipWith]
  rcases strA_len k o s.length with h | h
  · rw [h, Nat.min_self]
  · rw [h]; simp
theorem cipA_yes {k o s : List UInt8} (hk : k.length = 16) (ho : o.length = 12) (hs : s.length ≤ 1048576) : cipA k o s = xr s (str k o s.length) := by
  rw [cipA, strA_yes hk ho hs]
theorem cipA_no {k o s : List UInt8} (h : ¬ (k.length = 16 ∧ o.length = 12)) : cipA k o s = [] := by
  rw [cipA, strA_no (fun h1 => h ⟨h1.1, h1.2.1⟩)]
  simp [xr]
theorem cipA_full {k o s : List UInt8} (hk : k.length = 16) (ho : o.length = 12) (hs : s.length ≤ 1048576) : (cipA k o s).length = s.length := by
  rw [cipA_length, strA_yes hk ho hs, str_length]
theorem cipA_twice {k o s : List UInt8} (hk : k.length = 16) (ho : o.length = 12) (hs : s.length ≤ 1048576) : cipA k o (cipA k o s) = s := by
  have hl := cipA_full hk ho hs
  rw [cipA, hl, strA_yes hk ho hs, cipA_yes hk ho hs]
  exact xr_xr (by rw [str_length])
theorem cipA_take {k o s : List UInt8} {n : Nat} (hk : k.length = 16) (ho : o.length = 12) (hs : s.length ≤ 1048576) (hn : n ≤ s.length) : (cipA k o s).take n = cipA k o (s.take n) := by
  have hl : (s.take n).length = n := by simp; omega
  rw [cipA_yes hk ho hs, cipA_yes hk ho (by omega), xr_take, str_begins k o hn, hl]
end Ct

/- The plain mathematics of SHA-256 over numbers: words below 2^32, lists of words, no program. -/

namespace Sh

/-- A word turned right by n bits. -/
def rot (x n : Nat) : Nat := x / 2 ^ n + x % 2 ^ n * 2 ^ (32 - n)
def s0 (x : Nat) : Nat := rot x 7 ^^^ rot x 18 ^^^ x / 8
def s1 (x : Nat) : Nat := rot x 17 ^^^ rot x 19 ^^^ x / 1024
def S0 (x : Nat) : Nat := rot x 2 ^^^ rot x 13 ^^^ rot x 22
def S1 (x : Nat) : Nat := rot x 6 ^^^ rot x 11 ^^^ rot x 25
def ch (e f g : Nat) : Nat := (e &&& f) ^^^ ((4294967295 - e) &&& g)
def ma (a b c : Nat) : Nat := (a &&& b) ^^^ (a &&& c) ^^^ (b &&& c)

/-- The number that some bytes are, the greatest first. -/
def num (s : List UInt8) : Nat := s.foldl (fun a b => a * 256 + b.toNat) 0
def word (s : List UInt8) : Nat := num (s.take 4)

/-- The next word of a block's words. -/
def nxt (l : List Nat) (t : Nat) : Nat := (s1 (l.getD (t - 2) 0) + l.getD (t - 7) 0 + s0 (l.getD (t - 15) 0) + l.getD (t - 16) 0) % 4294967296
/-- The first t words of a block. -/
def sp (b : List UInt8) : Nat → List Nat
  | 0 => []
  | t + 1 => sp b t ++ [if t < 16 then word (b.drop (4 * t)) else nxt (sp b t) t]

structure St where
  (a b c d e f g h : Nat)

def St.list (v : St) : List Nat := [v.a, v.b, v.c, v.d, v.e, v.f, v.g, v.h]

def KK : List Nat := [1116352408, 1899447441, 3049323471, 3921009573, 961987163, 1508970993, 2453635748, 2870763221, 3624381080, 310598401, 607225278, 1426881987, 1925078388, 2162078206, 2614888103, 3248222580, 3835390401, 4022224774, 264347078, 604807628, 770255983, 1249150122, 1555081692, 1996064986, 2554220882, 2821834349, 2952996808, 3210313671, 3336571891, 3584528711, 113926993, 338241895, 666307205, 773529912, 1294757372, 1396182291, 1695183700, 1986661051, 2177026350, 2456956037, 2730485921, 2820302411, 3259730800, 3345764771, 3516065817, 3600352804, 4094571909, 275423344, 430227734, 506948616, 659060556, 883997877, 958139571, 1322822218, 1537002063, 1747873779, 1955562222, 2024104815, 2227730452, 2361852424, 2428436474, 2756734187, 3204031479, 3329325298]
def SQ : List Nat := [1779033703, 3144134277, 1013904242, 2773480762, 1359893119, 2600822924, 528734635, 1541459225]

def start : St := ⟨1779033703, 3144134277, 1013904242, 2773480762, 1359893119, 2600822924, 528734635, 1541459225⟩

def tt (v : St) (k w : Nat) : Nat := (v.h + S1 v.e + ch v.e v.f v.g + k + w) % 4294967296
def uu (v : St) : Nat := (S0 v.a + ma v.a v.b v.c) % 4294967296
def rnd (k w : Nat) (v : St) : St := ⟨(tt v k w + uu v) % 4294967296, v.a, v.b, v.c, (v.d + tt v k w) % 4294967296, v.e, v.f, v.g⟩
/-- The state behind t rounds. -/
def rn (ws : List Nat) (v : St) : Nat → St
  | 0 => v
  | t + 1 => rnd (KK.getD t 0) (ws.getD t 0) (rn ws v t)
def plus (v u : St) : St := ⟨(v.a + u.a) % 4294967296, (v.b + u.b) % 4294967296, (v.c + u.c) % 4294967296, (v.d + u.d) % 4294967296, (v.e + u.e) % 4294967296, (v.f + u.f) % 4294967296, (v.g + u.g) % 4294967296, (v.h + u.h) % 4294967296⟩
/-- The state behind one block. -/
def beh (v : St) (b : List UInt8) : St := plus v (rn (sp b 64) v 64)
/-- The state behind k blocks of a text. -/
def thr (v : St) (s : List UInt8) : Nat → St
  | 0 => v
  | k + 1 => beh (thr v s k) ((s.drop (k * 64)).take 64)

def byt (x : Nat) : UInt8 := UInt8.ofNat x
def wb (x : Nat) : List UInt8 := [byt (x / 16777216), byt (x / 65536), byt (x / 256), byt x]
/-- A state as bytes. -/
def txt (v : St) : List UInt8 := v.list.flatMap wb
def rds (s : List UInt8) : St := ⟨word s, word (s.drop 4), word (s.drop 8), word (s.drop 12), word (s.drop 16), word (s.drop 20), word (s.drop 24), word (s.drop 28)⟩

def noughts (n : Nat) : Nat := (64 - (n % 64 + 9) % 64) % 64
def cnt (n : Nat) : List UInt8 := (List.range 8).map fun i => byt (8 * n % 18446744073709551616 / 2 ^ (8 * (7 - i)))
/-- What is laid behind n bytes. -/
def pad (n : Nat) : List UInt8 := 128 :: (List.replicate (noughts n) 0 ++ cnt n)

def blocks (v : St) (s : List UInt8) : St := thr v s (s.length / 64)
def sum (s : List UInt8) : List UInt8 := txt (blocks start (s ++ pad s.length))
def block (st b : List UInt8) : List UInt8 := if st.length = 32 ∧ b.length = 64 then txt (beh (rds st) b) else []

set_option maxRecDepth 100000 in
theorem sum_abc : sum [97, 98, 99] = [186, 120, 22, 191, 143, 1, 207, 234, 65, 65, 64, 222, 93, 174, 34, 35, 176, 3, 97, 163, 150, 23, 122, 156, 180, 16, 255, 97, 242, 0, 21, 173] := by decide +kernel
end Sh

/- The plain mathematics of SHA-256: bounds. -/

namespace Sh

theorem pow_split (n : Nat) (hn : n ≤ 32) : 2 ^ n * 2 ^ (32 - n) = 4294967296 := by
  rw [← Nat.pow_add, show n + (32 - n) = 32 by omega]
theorem rot_parts (x n : Nat) (hx : x < 4294967296) (hn : n ≤ 32) : x / 2 ^ n < 2 ^ (32 - n) ∧ x % 2 ^ n < 2 ^ n := by
  have h := pow_split n hn
  refine ⟨?_, Nat.mod_lt _ (Nat.two_pow_pos n)⟩
  rw [Nat.div_lt_iff_lt_mul (Nat.two_pow_pos n), Nat.mul_comm, h]
  exact hx
theorem rot_lt {x n : Nat} (hx : x < 4294967296) (hn : n ≤ 32) : rot x n < 4294967296 := by
  obtain ⟨h1, h2⟩ := rot_parts x n hx hn
  have h := pow_split n hn
  unfold rot
  have h3 : (x % 2 ^ n + 1) * 2 ^ (32 - n) ≤ 2 ^ n * 2 ^ (32 - n) := Nat.mul_le_mul_right _ h2
  rw [h, Nat.add_mul, Nat.one_mul] at h3
  omega
theorem rot_or (x n : Nat) (hx : x < 4294967296) (hn : n ≤ 32) : (x * 2 ^ (32 - n) % 4294967296) ||| (x / 2 ^ n) = rot x n := by
  obtain ⟨h1, h2⟩ := rot_parts x n hx hn
  have h := pow_split n hn
  rw [← h, Nat.mul_mod_mul_right, ← Nat.shiftLeft_eq, ← Nat.shiftLeft_add_eq_or_of_lt h1, Nat.shiftLeft_eq]
  unfold rot
  omega
theorem xor_lt {x y : Nat} (hx : x < 4294967296) (hy : y < 4294967296) : x ^^^ y < 4294967296 := Nat.xor_lt_two_pow (n := 32) hx hy
theorem and_lt {x y : Nat} (hy : y < 4294967296) : x &&& y < 4294967296 := Nat.and_lt_two_pow (n := 32) x hy
theorem s0_lt {x : Nat} (hx : x < 4294967296) : s0 x < 4294967296 := xor_lt (xor_lt (rot_lt hx (by decide)) (rot_lt hx (by decide))) (by omega)
theorem s1_lt {x : Nat} (hx : x < 4294967296) : s1 x < 4294967296 := xor_lt (xor_lt (rot_lt hx (by decide)) (rot_lt hx (by decide))) (by omega)
theorem S0_lt {x : Nat} (hx : x < 4294967296) : S0 x < 4294967296 := xor_lt (xor_lt (rot_lt hx (by decide)) (rot_lt hx (by decide))) (rot_lt hx (by decide))
theorem S1_lt {x : Nat} (hx : x < 4294967296) : S1 x < 4294967296 := xor_lt (xor_lt (rot_lt hx (by decide)) (rot_lt hx (by decide))) (rot_lt hx (by decide))
theorem ch_lt {e f g : Nat} (hf : f < 4294967296) (hg : g < 4294967296) : ch e f g < 4294967296 := xor_lt (and_lt hf) (and_lt hg)
theorem ma_lt {a b c : Nat} (hb : b < 4294967296) (hc : c < 4294967296) : ma a b c < 4294967296 := xor_lt (xor_lt (and_lt hb) (and_lt hc)) (and_lt hc)

theorem num_snoc (s : List UInt8) (c : UInt8) : num (s ++ [c]) = num s * 256 + c.toNat := by simp [num]
theorem num_lt (s : List UInt8) : num s < 256 ^ s.length := by
  induction h : s.length generalizing s with
  | zero =>
    have : s = [] := List.eq_nil_of_length_eq_zero h
    subst this
    decide
  | succ n ih =>
    obtain ⟨l, c, rfl⟩ : ∃ l c, s = l ++ [c] := ⟨s.dropLast, s.getLast (by intro e; simp [e] at h), (List.dropLast_concat_getLast _).symm⟩
    have hl : l.length = n := by simpa using h
    have := ih l hl
    rw [num_snoc, Nat.pow_succ]
    have hc : c.toNat < 256 := UInt8.toNat_lt c
    omega
theorem word_lt (s : List UInt8) : word s < 4294967296 := by
  have h := num_lt (s.take 4)
  have hl : (s.take 4).length ≤ 4 := List.length_take_le _ _
  have h2 : 256 ^ (s.take 4).length ≤ 256 ^ 4 := Nat.pow_le_pow_right (by decide) hl
  have h3 : (256 : Nat) ^ 4 = 4294967296 := by decide
  unfold word
  omega

theorem sp_length (b : List UInt8) (t : Nat) : (sp b t).length = t := by
  induction t with
  | zero => rfl
  | succ t ih => simp [sp, ih]
theorem nxt_lt (l : List Nat) (t : Nat) : nxt l t < 4294967296 := Nat.mod_lt _ (by decide)
theorem sp_lt (b : List UInt8) (t : Nat) : ∀ x ∈ sp b t, x < 4294967296 := by
  induction t with
  | zero => intro x hx; cases hx
  | succ t ih =>
    intro x hx
    simp only [sp, List.mem_append, List.mem_singleton] at hx
    rcases hx with hx | hx
    · exact ih x hx
    · subst hx
      split
      · exact word_lt _
      · exact nxt_lt _ _
theorem getD_lt {l : List Nat} (h : ∀ x ∈ l, x < 4294967296) (i : Nat) : l.getD i 0 < 4294967296 := by
  rw [List.getD_eq_getElem?_getD]
  cases hq : l[i]? with
  | none => decide
  | some x => exact h x (List.mem_of_getElem? hq)

structure St.Ok (v : St) : Prop where
  a : v.a < 4294967296
  b : v.b < 4294967296
  c : v.c < 4294967296
  d : v.d < 4294967296
  e : v.e < 4294967296
  f : v.f < 4294967296
  g : v.g < 4294967296
  h : v.h < 4294967296
theorem start_ok : start.Ok := ⟨by decide, by decide, by decide, by decide, by decide, by decide, by decide, by decide⟩
theorem rnd_ok {v : St} (h : v.Ok) (k w : Nat) : (rnd k w v).Ok := ⟨Nat.mod_lt _ (by decide), h.a, h.b, h.c, Nat.mod_lt _ (by decide), h.e, h.f, h.g⟩
theorem rn_ok {v : St} (h : v.Ok) (ws : List Nat) (t : Nat) : (rn ws v t).Ok := by
  induction t with
  | zero => exact h
  | succ t ih => exact rnd_ok ih _ _
theorem plus_ok (v u : St) : (plus v u).Ok := ⟨Nat.mod_lt _ (by decide), Nat.mod_lt _ (by decide), Nat.mod_lt _ (by decide), Nat.mod_lt _ (by decide), Nat.mod_lt _ (by decide), Nat.mod_lt _ (by decide), Nat.mod_lt _ (by decide), Nat.mod_lt _ (by decide)⟩
theorem beh_ok (v : St) (b : List UInt8) : (beh v b).Ok := plus_ok _ _
theorem thr_ok {v : St} (h : v.Ok) (s : List UInt8) (k : Nat) : (thr v s k).Ok := by
  cases k with
  | zero => exact h
  | succ k => exact beh_ok _ _
theorem rds_ok (s : List UInt8) : (rds s).Ok := ⟨word_lt _, word_lt _, word_lt _, word_lt _, word_lt _, word_lt _, word_lt _, word_lt _⟩
theorem txt_length (v : St) : (txt v).length = 32 := rfl
theorem pad_length (n : Nat) : (pad n).length = noughts n + 9 := by simp [pad, cnt]
theorem KK_lt : ∀ x ∈ KK, x < 4294967296 := by decide
theorem SQ_lt : ∀ x ∈ SQ, x < 4294967296 := by decide
end Sh

/- The plain mathematics of SHA-256: a block's words, one by one. -/

namespace Sh

theorem sp_take (b : List UInt8) (n k : Nat) (h : k ≤ n) : (sp b n).take k = sp b k := by
  induction n with
  | zero =>
    obtain rfl : k = 0 := by omega
    rfl
  | succ n ih =>
    by_cases hk : k = n + 1
    · subst hk
      exact List.take_of_length_le (by rw [sp_length]; omega)
    · rw [sp, List.take_append_of_le_length (by rw [sp_length]; omega)]
      exact ih (by omega)
theorem getD_take {l : List Nat} {k j : Nat} (h : j < k) : (l.take k).getD j 0 = l.getD j 0 := by
  simp [List.getD_eq_getElem?_getD, h]
theorem nxt_take (l : List Nat) (k : Nat) (h : 16 ≤ k) : nxt (l.take k) k = nxt l k := by
  unfold nxt
  rw [getD_take (by omega), getD_take (by omega), getD_take (by omega), getD_take (by omega)]
theorem sp_get (b : List UInt8) (k : Nat) (h : k < 64) : (sp b 64).getD k 0 = if k < 16 then word (b.drop (4 * k)) else nxt (sp b 64) k := by
  have h1 : (sp b 64).getD k 0 = (sp b (k + 1)).getD k 0 := by
    rw [← sp_take b 64 (k + 1) (by omega), getD_take (by omega)]
  rw [h1, sp, List.getD_eq_getElem?_getD, List.getElem?_append_right (by rw [sp_length]; omega), sp_length, Nat.sub_self]
  show (if k < 16 then word (b.drop (4 * k)) else nxt (sp b k) k) = _
  split
  · rfl
  · rw [← sp_take b 64 k (by omega), nxt_take _ _ (by omega)]
end Sh

/- The plain mathematics of SHA-256: a text that is cut between two blocks. -/

namespace Sh

theorem cut_left (a c : List UInt8) (k : Nat) (h : (k + 1) * 64 ≤ a.length) : ((a ++ c).drop (k * 64)).take 64 = (a.drop (k * 64)).take 64 := by
  rw [List.drop_append_of_le_length (by omega), List.take_append_of_le_length (by rw [List.length_drop]; omega)]
theorem cut_right (a c : List UInt8) (m k : Nat) (h : a.length = m * 64) : ((a ++ c).drop ((m + k) * 64)).take 64 = (c.drop (k * 64)).take 64 := by
  have : (m + k) * 64 = a.length + k * 64 := by omega
  rw [this, List.drop_append, List.drop_of_length_le (by omega), List.nil_append, Nat.add_sub_cancel_left]
theorem thr_left (v : St) (a c : List UInt8) (k : Nat) (h : k * 64 ≤ a.length) : thr v (a ++ c) k = thr v a k := by
  induction k with
  | zero => rw [thr, thr]
  | succ k ih => rw [thr, thr, ih (by omega), cut_left a c k h]
theorem thr_right (v : St) (a c : List UInt8) (m k : Nat) (h : a.length = m * 64) : thr v (a ++ c) (m + k) = thr (thr v a m) c k := by
  induction k with
  | zero => rw [Nat.add_zero, thr_left v a c m (by omega), thr]
  | succ k ih => rw [← Nat.add_assoc, thr, thr, ih, cut_right a c m k h]
theorem blocks_app (v : St) (a c : List UInt8) (h : a.length % 64 = 0) : blocks v (a ++ c) = blocks (blocks v a) c := by
  have hm : a.length = a.length / 64 * 64 := by omega
  rw [blocks, blocks, blocks, List.length_append, show (a.length + c.length) / 64 = a.length / 64 + c.length / 64 by omega, thr_right v a c _ _ hm]
theorem sum_cut (s : List UInt8) : sum s = txt (blocks (blocks start (s.take (s.length - s.length % 64))) (s.drop (s.length - s.length % 64) ++ pad s.length)) := by
  rw [sum, ← blocks_app _ _ _ (by rw [List.length_take]; omega), ← List.append_assoc, List.take_append_drop]
theorem blocks_ok {v : St} (h : v.Ok) (s : List UInt8) : (blocks v s).Ok := thr_ok h s _
theorem pad_le (n : Nat) : (pad n).length ≤ 72 := by rw [pad_length]; unfold noughts; omega
end Sh

/- The plain mathematics of SHA-256: a state's bytes are read as that state. -/

namespace Sh

theorem word_wb (x : Nat) (hx : x < 4294967296) (r : List UInt8) : word (wb x ++ r) = x := by
  have h : word (wb x ++ r) = (((0 * 256 + (byt (x / 16777216)).toNat) * 256 + (byt (x / 65536)).toNat) * 256 + (byt (x / 256)).toNat) * 256 + (byt x).toNat := rfl
  have e : ∀ n, (byt n).toNat = n % 256 := fun n => UInt8.toNat_ofNat'
  rw [h, e, e, e, e]
  omega
theorem rds_txt (v : St) (h : v.Ok) : rds (txt v) = v := by
  obtain ⟨a, b, c, d, e, f, g, i⟩ := v
  obtain ⟨ha, hb, hc, hd, he, hf, hg, hi⟩ := h
  simp only at ha hb hc hd he hf hg hi
  have ht : txt ⟨a, b, c, d, e, f, g, i⟩ = wb a ++ (wb b ++ (wb c ++ (wb d ++ (wb e ++ (wb f ++ (wb g ++ (wb i ++ []))))))) := rfl
  have h0 : word (txt ⟨a, b, c, d, e, f, g, i⟩) = a := by rw [ht, word_wb a ha]
  have h1 : word ((txt ⟨a, b, c, d, e, f, g, i⟩).drop 4) = b := word_wb b hb (wb c ++ (wb d ++ (wb e ++ (wb f ++ (wb g ++ (wb i ++ []))))))
  have h2 : word ((txt ⟨a, b, c, d, e, f, g, i⟩).drop 8) = c := word_wb c hc (wb d ++ (wb e ++ (wb f ++ (wb g ++ (wb i ++ [])))))
  have h3 : word ((txt ⟨a, b, c, d, e, f, g, i⟩).drop 12) = d := word_wb d hd (wb e ++ (wb f ++ (wb g ++ (wb i ++ []))))
  have h4 : word ((txt ⟨a, b, c, d, e, f, g, i⟩).drop 16) = e := word_wb e he (wb f ++ (wb g ++ (wb i ++ [])))
  have h5 : word ((txt ⟨a, b, c, d, e, f, g, i⟩).drop 20) = f := word_wb f hf (wb g ++ (wb i ++ []))
  have h6 : word ((txt ⟨a, b, c, d, e, f, g, i⟩).drop 24) = g := word_wb g hg (wb i ++ [])
  have h7 : word ((txt ⟨a, b, c, d, e, f, g, i⟩).drop 28) = i := word_wb i hi []
  rw [rds, h0, h1, h2, h3, h4, h5, h6, h7]
theorem block_txt (v : St) (h : v.Ok) (b : List UInt8) (hb : b.length = 64) : block (txt v) b = txt (beh v b) := by
  rw [block, if_pos ⟨txt_length v, hb⟩, rds_txt v h]
theorem pad_mod (n : Nat) : (n + (pad n).length) % 64 = 0 := by rw [pad_length]; unfold noughts; omega
theorem pad_ge (n : Nat) : 9 ≤ (pad n).length := by rw [pad_length]; omega
end Sh

/- The plain mathematics of HMAC with SHA-256, over lists of bytes: no program. -/

namespace Hm

/-- Each byte with another one. -/
def xr (x : UInt8) (s : List UInt8) : List UInt8 := s.map (· ^^^ x)
/-- A key that is no longer than a block. -/
def cut (k : List UInt8) : List UInt8 := if 64 < k.length then Sh.sum k else k
/-- A key as a block. -/
def key (k : List UInt8) : List UInt8 := cut k ++ List.replicate (64 - (cut k).length) 0
def mac (k s : List UInt8) : List UInt8 := Sh.sum (xr 92 (key k) ++ Sh.sum (xr 54 (key k) ++ s))

theorem sum_length (s : List UInt8) : (Sh.sum s).length = 32 := Sh.txt_length _
theorem cut_le (k : List UInt8) : (cut k).length ≤ 64 := by
  unfold cut
  split
  · rw [sum_length]; omega
  · omega
theorem key_length (k : List UInt8) : (key k).length = 64 := by
  have := cut_le k
  rw [key, List.length_append, List.length_replicate]
  omega
theorem cut_short {k : List UInt8} (h : k.length ≤ 64) : cut k = k := by rw [cut, if_neg (by omega)]
theorem cut_long {k : List UInt8} (h : 64 < k.length) : cut k = Sh.sum k := by rw [cut, if_pos h]
theorem key_key (k : List UInt8) : key (key k) = key k := by
  have h := key_length k
  conv => lhs; rw [key, cut_short (by omega), h]
  simp
theorem mac_key (k s : List UInt8) : mac (key k) s = mac k s := by rw [mac, mac, key_key]
theorem key_more (k : List UInt8) (n : Nat) (h : k.length + n ≤ 64) : key (k ++ List.replicate n 0) = key k := by
  rw [key, key, cut_short (by rw [List.length_append, List.length_replicate]; omega), cut_short (by omega), List.length_append, List.length_replicate, List.append_assoc, List.replicate_append_replicate]
  congr 2
  omega
theorem mac_more (k s : List UInt8) (n : Nat) (h : k.length + n ≤ 64) : mac (k ++ List.replicate n 0) s = mac k s := by rw [mac, mac, key_more k n h]
theorem key_take (k : List UInt8) (h : k.length ≤ 64) : (key k).take k.length = k := by
  rw [key, cut_short h, List.take_append_of_le_length (Nat.le_refl _), List.take_of_length_le (Nat.le_refl _)]
theorem xr_length (x : UInt8) (s : List UInt8) : (xr x s).length = s.length := by simp [xr]
theorem mac_length (k s : List UInt8) : (mac k s).length = 32 := sum_length _

set_option maxRecDepth 100000 in
theorem mac_jefe : mac [74, 101, 102, 101] [119, 104, 97, 116, 32, 100, 111, 32, 121, 97, 32, 119, 97, 110, 116, 32, 102, 111, 114, 32, 110, 111, 116, 104, 105, 110, 103, 63] = [91, 220, 193, 70, 191, 96, 117, 78, 106, 4, 36, 38, 8, 149, 117, 199, 90, 0, 63, 8, 157, 39, 57, 131, 157, 236, 88, 185, 100, 236, 56, 67] := by decide +kernel
end Hm

/- The plain mathematics of keys for one use: a number as eight bytes, and the texts. No program. -/

namespace De

/-- A number, going round at 2^64. -/
def un (n : Int) : Nat := (n % 18446744073709551616).toNat
/-- Eight bytes, the greatest first. -/
def num (u : Nat) : List UInt8 := (List.range 8).map fun i => Sh.byt (u / 2 ^ (8 * (7 - i)))
/-- A label, a byte 00, and a number. -/
def lab (l : List UInt8) : List UInt8 := l ++ [0]
def txt (l : List UInt8) (n : Int) : List UInt8 := lab l ++ num (un n)
def key (b : List UInt8) (n : Int) (l : List UInt8) : List UInt8 := Hm.mac b (txt l n)

theorem un_lt (n : Int) : un n < 18446744073709551616 := by unfold un; omega
theorem un_cast (n : Int) : ((un n : Nat) : Int) = n % 18446744073709551616 := by unfold un; omega
theorem un_inj {a b : Int} (ha : -9223372036854775808 ≤ a ∧ a ≤ 9223372036854775807) (hb : -9223372036854775808 ≤ b ∧ b ≤ 9223372036854775807) (h : un a = un b) : a = b := by
  unfold un at h
  omega
theorem num_length (u : Nat) : (num u).length = 8 := by simp [num]
theorem lab_length (l : List UInt8) : (lab l).length = l.length + 1 := by simp [lab]
theorem txt_length (l : List UInt8) (n : Int) : (txt l n).length = l.length + 9 := by rw [txt, List.length_append, num_length, lab_length]
theorem key_length (b : List UInt8) (n : Int) (l : List UInt8) : (key b n l).length = 32 := Hm.mac_length _ _
theorem num_eq (u : Nat) : num u = [Sh.byt (u / 2 ^ 56), Sh.byt (u / 2 ^ 48), Sh.byt (u / 2 ^ 40), Sh.byt (u / 2 ^ 32), Sh.byt (u / 2 ^ 24), Sh.byt (u / 2 ^ 16), Sh.byt (u / 2 ^ 8), Sh.byt (u / 2 ^ 0)] := rfl
theorem byt_inj {a b : Nat} (h : Sh.byt a = Sh.byt b) : a % 256 = b % 256 := by
  have := congrArg UInt8.toNat h
  rw [Sh.byt, Sh.byt, UInt8.toNat_ofNat', UInt8.toNat_ofNat'] at this
  exact this
theorem num_inj {a b : Nat} (ha : a < 18446744073709551616) (hb : b < 18446744073709551616) (h : num a = num b) : a = b := by
  rw [num_eq, num_eq] at h
  simp only [List.cons.injEq, and_true] at h
  obtain ⟨h0, h1, h2, h3, h4, h5, h6, h7⟩ := h
  have h0 := byt_inj h0
  have h1 := byt_inj h1
  have h2 := byt_inj h2
  have h3 := byt_inj h3
  have h4 := byt_inj h4
  have h5 := byt_inj h5
  have h6 := byt_inj h6
  have h7 := byt_inj h7
  simp only [Nat.reducePow] at h0 h1 h2 h3 h4 h5 h6 h7
  omega
/-- Two such texts are the same just if both are. -/
theorem txt_iff (x y : List UInt8) {a b : Int} (ha : -9223372036854775808 ≤ a ∧ a ≤ 9223372036854775807) (hb : -9223372036854775808 ≤ b ∧ b ≤ 9223372036854775807) : txt x a = txt y b ↔ a = b ∧ x = y := by
  constructor
  · intro h
    have hl : x.length = y.length := by
      have := congrArg List.length h
      rw [txt_length, txt_length] at this
      omega
    obtain ⟨h1, h2⟩ := List.append_inj h (by rw [lab_length, lab_length, hl])
    exact ⟨un_inj ha hb (num_inj (un_lt a) (un_lt b) h2), (List.append_inj h1 hl).1⟩
  · rintro ⟨rfl, rfl⟩
    rfl
theorem num_snoc (u k : Nat) (hk : k < 8) : (num u).take (k + 1) = (num u).take k ++ [Sh.byt (u / 2 ^ (8 * (7 - k)))] := by
  have hl := num_length u
  rw [List.take_succ_eq_append_getElem (by omega)]
  simp [num]
end De

/- The plain mathematics of what is ciphered, and then summed: no program. -/

namespace Sl

/-- The key that ciphers, and the one that sums. -/
def ck (b : List UInt8) (n : Int) : List UInt8 := (De.key b n [99, 105, 112, 104, 101, 114]).take 16
def sk (b : List UInt8) (n : Int) : List UInt8 := De.key b n [115, 117, 109]
def cip (b : List UInt8) (n : Int) (o x : List UInt8) : List UInt8 := Ct.cipA (ck b n) o x
def mc (b : List UInt8) (n : Int) (s : List UInt8) : List UInt8 := Hm.mac (sk b n) s
/-- What is summed, and what is sealed. -/
def hd (b : List UInt8) (n : Int) (o x : List UInt8) : List UInt8 := o ++ cip b n o x
def sld (b : List UInt8) (n : Int) (o x : List UInt8) : List UInt8 := hd b n o x ++ mc b n (hd b n o x)
/-- The sum of a body. -/
def chk (b : List UInt8) (n : Int) (x : List UInt8) : List UInt8 := Hm.mac (De.key b n [99, 104, 101, 99, 107]) x
/-- What is opened, and the error's number. -/
def opn (b : List UInt8) (n : Int) (s : List UInt8) : List UInt8 × Nat :=
  if s.length < 44 then ([], 10) else if mc b n (s.take (s.length - 32)) = s.drop (s.length - 32) then (cip b n (s.take 12) ((s.drop 12).take (s.length - 32 - 12)), 0) else ([], 20)

theorem ck_length (b : List UInt8) (n : Int) : (ck b n).length = 16 := by rw [ck, List.length_take, De.key_length]; rfl
theorem sk_length (b : List UInt8) (n : Int) : (sk b n).length = 32 := De.key_length _ _ _
theorem mc_length (b : List UInt8) (n : Int) (s : List UInt8) : (mc b n s).length = 32 := Hm.mac_length _ _
theorem chk_length (b : List UInt8) (n : Int) (s : List UInt8) : (chk b n s).length = 32 := Hm.mac_length _ _
theorem cip_length (b : List UInt8) (n : Int) {o x : List UInt8} (ho : o.length = 12) (hx : x.length ≤ 1048576) : (cip b n o x).length = x.length := Ct.cipA_full (ck_length b n) ho hx
theorem cip_le (b : List UInt8) (n : Int) (o x : List UInt8) : (cip b n o x).length ≤ x.length := by
  rw [cip, Ct.cipA, Ct.xr, List.length_zipWith]
  omega
theorem cip_twice (b : List UInt8) (n : Int) {o x : List UInt8} (ho : o.length = 12) (hx : x.length ≤ 1048576) : cip b n o (cip b n o x) = x := Ct.cipA_twice (ck_length b n) ho hx
theorem hd_length (b : List UInt8) (n : Int) {o x : List UInt8} (ho : o.length = 12) (hx : x.length ≤ 1048576) : (hd b n o x).length = x.length + 12 := by
  rw [hd, List.length_append, cip_length b n ho hx, ho]
  omega
theorem sld_length (b : List UInt8) (n : Int) {o x : List UInt8} (ho : o.length = 12) (hx : x.length ≤ 1048576) : (sld b n o x).length = x.length + 44 := by
  rw [sld, List.length_append, hd_length b n ho hx, mc_length]

/-- What is opened of a head with any 32 bytes behind it. -/
theorem opn_head (b : List UInt8) (n : Int) {o x t : List UInt8} (ho : o.length = 12) (hx : x.length ≤ 1048576) (ht : t.length = 32) :
    opn b n (hd b n o x ++ t) = if mc b n (hd b n o x) = t then (x, 0) else ([], 20) := by
  have hl := hd_length b n ho hx
  have hn : (hd b n o x ++ t).length - 32 = (hd b n o x).length := by rw [List.length_append, ht]; omega
  have h0 : ¬ (hd b n o x ++ t).length < 44 := by rw [List.length_append, ht, hl]; omega
  rw [opn, if_neg h0, hn, List.take_left, List.drop_left]
  by_cases h : mc b n (hd b n o x) = t
  · rw [if_pos h, if_pos h]
    have h1 : (hd b n o x ++ t).take 12 = o := by
      rw [List.take_append_of_le_length (by omega), hd, List.take_append_of_le_length (by omega), List.take_of_length_le (by omega)]
    have h2 : ((hd b n o x ++ t).drop 12).take ((hd b n o x).length - 12) = cip b n o x := by
      rw [← List.drop_take, List.take_left, hd, List.drop_append_of_le_length (by omega), List.drop_of_length_le (by omega)]
      rfl
    rw [h1, h2, cip_twice b n ho hx]
  · rw [if_neg h, if_neg h]
theorem opn_back (b : List UInt8) (n : Int) {o x : List UInt8} (ho : o.length = 12) (hx : x.length ≤ 1048576) : opn b n (sld b n o x) = (x, 0) := by
  rw [sld, opn_head b n ho hx (mc_length _ _ _), if_pos rfl]
theorem sld_nonce (b : List UInt8) (n : Int) {o x : List UInt8} (ho : o.length = 12) : (sld b n o x).take 12 = o := by
  rw [sld, hd, List.append_assoc, List.take_append_of_le_length (by omega), List.take_of_length_le (by omega)]
theorem sld_iff (b : List UInt8) (n : Int) {o p x : List UInt8} (ho : o.length = 12) (hp : p.length = 12) : sld b n o x = sld b n p x ↔ o = p := by
  constructor
  · intro h
    rw [← sld_nonce b n (x := x) ho, h, sld_nonce b n hp]
  · rintro rfl
    rfl
theorem str_at (k o : List UInt8) {i m l : Nat} (hm : i < m) (hl : i < l) : (Ct.str k o m).getD i 0 = (Ct.str k o l).getD i 0 := by
  have aux : ∀ {a c : Nat}, i < a → a ≤ c → (Ct.str k o a).getD i 0 = (Ct.str k o c).getD i 0 := by
    intro a c ha hc
    rw [← Ct.str_begins k o hc, List.getD_eq_getElem?_getD, List.getD_eq_getElem?_getD, List.getElem?_take, if_pos ha]
  rcases Nat.le_total m l with h | h
  · exact aux hm h
  · exact (aux hl h).symm
theorem sld_at (b : List UInt8) (n : Int) {o x : List UInt8} {i : Nat} (ho : o.length = 12) (hx : x.length ≤ 1048576) (hi : i < x.length) :
    (sld b n o x).getD (12 + i) 0 = x.getD i 0 ^^^ (Ct.str (ck b n) o x.length).getD i 0 := by
  have hc := cip_length b n ho hx
  rw [sld, hd, List.append_assoc, List.getD_eq_getElem?_getD, List.getElem?_append_right (by omega), ho, Nat.add_sub_cancel_left, List.getElem?_append_left (by omega), ← List.getD_eq_getElem?_getD, cip, Ct.cipA_yes (ck_length b n) ho hx]
  exact Ct.xr_getD _ _ _ hi (by rw [Ct.str_length]; exact hi)
theorem xor_right {x y z : UInt8} : x ^^^ z = y ^^^ z ↔ x = y := by
  constructor
  · intro h
    have := congrArg (· ^^^ z) h
    simpa [UInt8.xor_assoc] using this
  · rintro rfl
    rfl
/-- Two bodies sealed with the same nonce part where the bodies do. -/
theorem sld_alike (b : List UInt8) (n : Int) {o x y : List UInt8} {i : Nat} (ho : o.length = 12) (hx : x.length ≤ 1048576) (hy : y.length ≤ 1048576) (hi : i < x.length) (hj : i < y.length) :
    ((sld b n o x).getD (12 + i) 0 = (sld b n o y).getD (12 + i) 0) ↔ x.getD i 0 = y.getD i 0 := by
  rw [sld_at b n ho hx hi, sld_at b n ho hy hj, str_at _ _ hi hj]
  exact xor_right
end Sl

/- Plain mathematics of terms as items: what each is packed as, and how long that is. No program in here. (Laid with NS=1.) -/

namespace Go.Proofs.YticofjbngfjjlaaGreatDoor.Cy
open Te.Tt
open Wi.Wr (It wr wrs)

/-- A key as bytes. -/
def kb (c s : List UInt8) (n : Int) : List UInt8 := if s = [] then Hm.mac c (De.txt [115, 101, 115, 115, 105, 111, 110] n) else Hm.mac c (De.txt [108, 111, 110, 103] n ++ s)
theorem kb_length (c s : List UInt8) (n : Int) : (kb c s n).length = 32 := by unfold kb; split <;> exact Hm.mac_length _ _
/-- The bytes of a list's first term, as a key. -/
def kf (c : List UInt8) : List Tm → List UInt8
  | [] => []
  | x :: _ => kb c x.s x.n
/-- A number as eight bytes. -/
def nm8 (n : Int) : List UInt8 := De.num (De.un n)
theorem nm8_length (n : Int) : (nm8 n).length = 8 := De.num_length _
/-- A seal's nonce. -/
def nonce (c t : List UInt8) : List UInt8 := (Hm.mac c ([110, 111, 110, 99, 101, 0] ++ t)).take 12
theorem nonce_length (c t : List UInt8) : (nonce c t).length = 12 := by rw [nonce, List.length_take, Hm.mac_length]; rfl
def leaf (t : Int) (s : List UInt8) : It := .mk false t s []
def snd : List It → It
  | _ :: y :: _ => y
  | _ => leaf 0 []

mutual
/-- What a term is packed as. -/
def pk (c : List UInt8) : Tm → It
  | .mk k s n l =>
    if k = 0 then leaf 1 s else if k = 1 then leaf 2 (nm8 n) else if k = 2 then leaf 3 (kb c s n) else if k = 3 then .mk true 4 [] (pks c l) else
    if k = 4 then leaf 5 (UInt8.ofNat n.toNat :: Sl.sld (kf c l) n (nonce c (text (.mk k s n l))) (wr (snd (pks c l)))) else
    .mk true 6 [] [leaf 2 (nm8 n), snd (pks c l), leaf 7 (Sl.chk (kf c l) n (wr (snd (pks c l))))]
def pks (c : List UInt8) : List Tm → List It
  | [] => []
  | x :: r => pk c x :: pks c r
end
theorem pks_map (c : List UInt8) : ∀ l, pks c l = l.map (pk c)
  | [] => by simp [pks]
  | x :: r => by simp [pks, pks_map c r]

/-! ### How long -/
theorem dg1 {n : Nat} (h : n < 128) : Wi.Wr.dg n = 1 := by rw [Wi.Wr.dg, dif_pos h]
theorem dg3 {n : Nat} (h : n < 2097152) : Wi.Wr.dg n ≤ 3 := by
  have e : ∀ m : Nat, Wi.Wr.dg m = if m < 128 then 1 else Wi.Wr.dg (m / 128) + 1 := fun m => by rw [Wi.Wr.dg]; split <;> rfl
  rw [e]
  split
  · omega
  · rw [e]
    split
    · omega
    · rw [dg1 (by omega)]; omega
theorem leaf_sz (t : Int) (s : List UInt8) (e : Nat) (ht : 1 ≤ t ∧ t < 128) (he : e ≤ 32) (hs : s.length ≤ 65000) : Wi.Wr.sz (leaf t s) e = some (s.length + 1 + Wi.Wr.dg s.length) := by
  have := dg3 (n := s.length) (by omega)
  rw [leaf, Wi.Wr.sz, if_neg (by omega)]
  simp
  omega
theorem node_sz (t : Int) (l : List It) (e b : Nat) (ht : 1 ≤ t ∧ t < 128) (he : e ≤ 32) (hl : Wi.Wr.szs l (e + 1) 0 = some b) (hb : b ≤ 65000) : Wi.Wr.sz (.mk true t [] l) e = some (b + 1 + Wi.Wr.dg b) := by
  have := dg3 (n := b) (by omega)
  rw [Wi.Wr.sz, if_neg (by omega)]
  simp [hl]
  omega
theorem szs_all (c : List UInt8) (e : Nat) : ∀ (l : List Tm) (a : Nat), (∀ x ∈ l, ∃ m, Wi.Wr.sz (pk c x) e = some m ∧ m ≤ 49 * Te.Tt.sz x) → a + 49 * Te.Tt.szs l ≤ 65000 → ∃ b, Wi.Wr.szs (pks c l) e a = some b ∧ b ≤ a + 49 * Te.Tt.szs l
  | [], a, _, _ => ⟨a, by rw [pks, Wi.Wr.szs], by omega⟩
  | x :: r, a, h, hl => by
    obtain ⟨m, hm, hm2⟩ := h x (by simp)
    rw [Te.Tt.szs] at hl ⊢
    obtain ⟨b, hb, hb2⟩ := szs_all c e r (a + m) (fun y hy => h y (by simp [hy])) (by omega)
    exact ⟨b, by rw [pks, Wi.Wr.szs, hm]; simp only; rw [if_neg (by omega)]; exact hb, by omega⟩

theorem pk_sz (c : List UInt8) : ∀ (x : Tm) (d e : Nat), vld d x = true → e + dp x ≤ 32 → Te.Tt.sz x ≤ 1000 → ∃ m, Wi.Wr.sz (pk c x) e = some m ∧ m ≤ 49 * Te.Tt.sz x := Tm.ind (by
  intro k s n l ih d e hv he hz
  obtain ⟨hmis, hall⟩ := vld_own hv
  rw [Te.Tt.sz] at hz
  rw [dp] at he
  rcases mis_kinds hmis with ⟨rfl, h1, rfl, rfl⟩ | ⟨rfl, rfl, rfl⟩ | ⟨rfl, h1, rfl⟩ | ⟨rfl, rfl, rfl⟩ | ⟨rfl, rfl, y0, y1, rfl⟩ | ⟨rfl, rfl, y0, y1, rfl⟩
  · have hs : s.length ≤ 40 := by
      unfold isName at h1
      simp only [Bool.and_eq_true, decide_eq_true_eq] at h1
      exact h1.1.2
    refine ⟨_, by rw [pk]; simp only [if_true]; exact leaf_sz 1 s e (by omega) (by omega) (by omega), ?_⟩
    rw [dg1 (by omega), Te.Tt.sz, Te.Tt.szs]; omega
  · refine ⟨_, by rw [pk]; simp only [if_true, show (1 : Int) ≠ 0 by decide, if_false]; exact leaf_sz 2 _ e (by omega) (by omega) (by rw [nm8_length]; omega), ?_⟩
    rw [nm8_length, dg1 (by omega), Te.Tt.sz, Te.Tt.szs]; omega
  · refine ⟨_, by rw [pk]; simp only [if_true, show (2 : Int) ≠ 0 by decide, show (2 : Int) ≠ 1 by decide, if_false]; exact leaf_sz 3 _ e (by omega) (by omega) (by rw [kb_length]; omega), ?_⟩
    rw [kb_length, dg1 (by omega), Te.Tt.sz, Te.Tt.szs]; omega
  · obtain ⟨b, hb, hb2⟩ := szs_all c (e + 1) l 0 (fun x hx => ih x hx (d + 1) (e + 1) (hall x hx) (by have := (dps_le l (dps l)).1 (Nat.le_refl _) x hx; omega) (by have := szs_mem l x hx; omega)) (by omega)
    refine ⟨_, by rw [pk]; simp only [if_true, show (3 : Int) ≠ 0 by decide, show (3 : Int) ≠ 1 by decide, show (3 : Int) ≠ 2 by decide, if_false]; exact node_sz 4 _ e b (by omega) (by omega) hb (by omega), ?_⟩
    have := dg3 (n := b) (by omega)
    rw [Te.Tt.sz]; omega
  · have hd1 : dp y1 ≤ 32 := by have := (dps_le [y0, y1] _).1 (Nat.le_refl _) y1 (by simp); omega
    have hs0 := sz_pos y0
    simp only [Te.Tt.szs] at hz
    obtain ⟨m, hm, hm2⟩ := ih y1 (by simp) (d + 1) 0 (hall y1 (by simp)) (by omega) (by omega)
    have hw := Wi.Wr.sz_len _ _ _ hm
    have hsl : (Sl.sld (kf c [y0, y1]) n (nonce c (text (.mk 4 [] n [y0, y1]))) (wr (snd (pks c [y0, y1])))).length = m + 44 := by
      rw [Sl.sld_length _ _ (nonce_length _ _) (by show (wr (pk c y1)).length ≤ _; omega)]
      show (wr (pk c y1)).length + 44 = _
      omega
    refine ⟨_, by rw [pk]; simp only [if_true, show (4 : Int) ≠ 0 by decide, show (4 : Int) ≠ 1 by decide, show (4 : Int) ≠ 2 by decide, show (4 : Int) ≠ 3 by decide, if_false]; exact leaf_sz 5 _ e (by omega) (by omega) (by rw [List.length_cons, hsl]; omega), ?_⟩
    rw [List.length_cons, hsl]
    have := dg3 (n := m + 44 + 1) (by omega)
    simp only [Te.Tt.sz, Te.Tt.szs]; omega
  · have hd1 : 1 + dp y1 ≤ dps [y0, y1] := (dps_le [y0, y1] _).1 (Nat.le_refl _) y1 (by simp)
    have hs0 := sz_pos y0
    simp only [Te.Tt.szs] at hz
    obtain ⟨m, hm, hm2⟩ := ih y1 (by simp) (d + 1) (e + 1) (hall y1 (by simp)) (by omega) (by omega)
    have h2 := leaf_sz 2 (nm8 n) (e + 1) (by omega) (by omega) (by rw [nm8_length]; omega)
    have h7 := leaf_sz 7 (Sl.chk (kf c [y0, y1]) n (wr (snd (pks c [y0, y1])))) (e + 1) (by omega) (by omega) (by rw [Sl.chk_length]; omega)
    rw [nm8_length, dg1 (by omega)] at h2
    rw [Sl.chk_length, dg1 (by omega)] at h7
    have hszs : Wi.Wr.szs [leaf 2 (nm8 n), snd (pks c [y0, y1]), leaf 7 (Sl.chk (kf c [y0, y1]) n (wr (snd (pks c [y0, y1]))))] (e + 1) 0 = some (m + 44) := by
      have hm' : Wi.Wr.sz (snd (pks c [y0, y1])) (e + 1) = some m := hm
      simp only [Wi.Wr.szs, h2, h7, hm']
      rw [if_neg (by omega), if_neg (by omega), if_neg (by omega)]
      congr 1; omega
    refine ⟨_, by rw [pk]; simp only [show (5 : Int) ≠ 0 by decide, show (5 : Int) ≠ 1 by decide, show (5 : Int) ≠ 2 by decide, show (5 : Int) ≠ 3 by decide, show (5 : Int) ≠ 4 by decide, if_false]; exact node_sz 6 _ e _ (by omega) (by omega) hszs (by omega), ?_⟩
    have := dg3 (n := m + 44) (by omega)
    simp only [Te.Tt.sz, Te.Tt.szs]; omega)
end Go.Proofs.YticofjbngfjjlaaGreatDoor.Cy


namespace Go.Proofs.YticofjbngfjjlaaGreatDoor
open Go.RowKit

theorem and31 (n : Nat) (h1 : 1 ≤ n) (h2 : n ≤ 31) : bits BinOp.and IntKind.u64 (IntKind.u64.wrap (-(n : Int))) 31 = ((32 - n : Nat) : Int) := by
  rw [IntKind.wrap_u64, show (-(n : Int)) % 18446744073709551616 = ((18446744073709551616 - n : Nat) : Int) by omega]
  show bits BinOp.and IntKind.u64 _ ((31 : Nat) : Int) = _
  rw [u64_and_nat _ _ (by omega) (by decide), nat_mask5]
  omega

theorem ret_u32 {a b : Int} (h : a = b) : Ending.returned (.int .u32 a) = .returned (.int .u32 b) := by rw [h]

set_option maxRecDepth 100000 in
theorem rot_any (x n : Nat) (w : World) (hx : x < 4294967296) (hk : 1 ≤ n) (hk2 : n ≤ 31) :
    Calls Tryz.prog 206 #[.int .u32 x, .int .i64 (-(n : Int))] w fun e w' => e = .returned (.int .u32 (Sh.rot x n : Nat)) ∧ w = w' := by
  have ha := and31 n hk hk2
  have h0 : (0 : Int) ≤ ((32 - n : Nat) : Int) := by omega
  have hw : IntKind.u64.wrap (32 - ((32 - n : Nat) : Int)) = (n : Int) := by rw [IntKind.wrap_u64]; omega
  go_enter Tryz.func206, Tryz.ntmps206
  go_wp2
  go_ret
  refine ⟨ret_u32 (?_ : bits BinOp.or IntKind.u32 (↑x * 2 ^ (32 - n) % 4294967296) (↑x / 2 ^ n) = _), rfl⟩
  rw [← Sh.rot_or x n hx (by omega), ← u32_or_nat _ _ (Nat.mod_lt _ (by decide)) (Nat.lt_of_le_of_lt (Nat.div_le_self _ _) hx)]
  simp

theorem xor_ones (e : Nat) (he : e < 4294967296) : 4294967295 ^^^ e = 4294967295 - e := by
  apply Nat.eq_of_testBit_eq
  intro i
  have h1 := Nat.testBit_two_pow_sub_one 32 i
  have h2 := Nat.testBit_two_pow_sub_succ (x := e) (n := 32) he i
  rw [show 2 ^ 32 - 1 = 4294967295 by decide] at h1
  rw [show 2 ^ 32 - (e + 1) = 4294967295 - e by omega] at h2
  rw [Nat.testBit_xor, h1, h2]
  by_cases hi : i < 32
  · simp [hi]
  · have : e.testBit i = false := Nat.testBit_lt_two_pow (Nat.lt_of_lt_of_le he (by
      have : 2 ^ 32 ≤ 2 ^ i := Nat.pow_le_pow_right (by omega) (by omega)
      simpa using this))
    simp [hi, this]
theorem bits_max (e : Nat) (he : e < 4294967296) : bits BinOp.xor IntKind.u32 IntKind.u32.max (e : Int) = ((4294967295 - e : Nat) : Int) := by
  show bits BinOp.xor IntKind.u32 ((4294967295 : Nat) : Int) (e : Int) = _
  rw [u32_xor_nat _ _ (by decide) he, xor_ones e he]

set_option maxRecDepth 100000 in
theorem choice_any (e f g : Nat)  (w : World) (he : e < 4294967296) (hf : f < 4294967296) (hg : g < 4294967296) :
    Calls Tryz.prog 184 #[.int .u32 e, .int .u32 f, .int .u32 g] w fun e' w' => e' = .returned (.int .u32 (Sh.ch e f g : Nat)) ∧ w = w' := by
  have h2 := bits_max e he
  have hs : IntKind.u32.signed = false := rfl
  go_enter Tryz.func184, Tryz.ntmps184
  go_wp2
  go_ret
  refine ⟨ret_u32 (?_ : bits BinOp.xor IntKind.u32 (bits BinOp.and IntKind.u32 ↑e ↑f) (bits BinOp.and IntKind.u32 ↑(4294967295 - e) ↑g) = _), rfl⟩
  rw [u32_and_nat _ _ he hf, u32_and_nat _ _ (by omega) hg, u32_xor_nat _ _ (Sh.and_lt hf) (Sh.and_lt hg)]
  rfl

set_option maxRecDepth 100000 in
theorem majority_any (a b c : Nat)  (w : World) (ha : a < 4294967296) (hb : b < 4294967296) (hc : c < 4294967296) :
    Calls Tryz.prog 186 #[.int .u32 a, .int .u32 b, .int .u32 c] w fun e' w' => e' = .returned (.int .u32 (Sh.ma a b c : Nat)) ∧ w = w' := by
  go_enter Tryz.func186, Tryz.ntmps186
  go_wp2
  go_ret
  refine ⟨ret_u32 (?_ : bits BinOp.xor IntKind.u32 (bits BinOp.xor IntKind.u32 (bits BinOp.and IntKind.u32 ↑a ↑b) (bits BinOp.and IntKind.u32 ↑a ↑c)) (bits BinOp.and IntKind.u32 ↑b ↑c) = _), rfl⟩
  rw [u32_and_nat _ _ ha hb, u32_and_nat _ _ ha hc, u32_and_nat _ _ hb hc, u32_xor_nat _ _ (Sh.and_lt hb) (Sh.and_lt hc), u32_xor_nat _ _ (Sh.xor_lt (Sh.and_lt hb) (Sh.and_lt hc)) (Sh.and_lt hc)]
  rfl

end Go.Proofs.YticofjbngfjjlaaGreatDoor

