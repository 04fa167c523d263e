/- Blocks and keys: plain mathematics. -/
import Derived.Test.YtdjehpbkkbahcaaDoorAePureB
namespace Ae

/-- 16 bytes by a function of their place. -/
def mk16 (f : Nat → UInt8) : List UInt8 := (List.range 16).map f
theorem mk16_length (f : Nat → UInt8) : (mk16 f).length = 16 := by simp [mk16]
theorem mk16_at (f : Nat → UInt8) (i : Nat) (h : i < 16) : (mk16 f).getD i 0 = f i := by
  simp [mk16, List.getD_eq_getElem?_getD, h]
theorem ext16 {a b : List UInt8} (ha : a.length = 16) (hb : b.length = 16) (h : ∀ i, i < 16 → a.getD i 0 = b.getD i 0) : a = b := by
  apply List.ext_getElem (by omega)
  intro i h1 h2
  have := h i (by omega)
  rw [List.getD_eq_getElem?_getD, List.getD_eq_getElem?_getD, List.getElem?_eq_getElem h1, List.getElem?_eq_getElem h2] at this
  exact this

def plus (s k : List UInt8) : List UInt8 := mk16 fun i => s.getD i 0 ^^^ k.getD i 0
def swapped (s : List UInt8) : List UInt8 := mk16 fun i => sw (s.getD i 0)
def turned (s : List UInt8) : List UInt8 := mk16 fun i => s.getD ((i / 4 + i % 4) % 4 * 4 + i % 4) 0
def mixAt (s : List UInt8) (c r : Nat) : UInt8 := tw (s.getD (4 * c + r) 0) ^^^ th (s.getD (4 * c + (r + 1) % 4) 0) ^^^ s.getD (4 * c + (r + 2) % 4) 0 ^^^ s.getD (4 * c + (r + 3) % 4) 0
def mixed (s : List UInt8) : List UInt8 := mk16 fun i => mixAt s (i / 4) (i % 4)
theorem plus_length (s k : List UInt8) : (plus s k).length = 16 := mk16_length _
theorem swapped_length (s : List UInt8) : (swapped s).length = 16 := mk16_length _
theorem turned_length (s : List UInt8) : (turned s).length = 16 := mk16_length _
theorem mixed_length (s : List UInt8) : (mixed s).length = 16 := mk16_length _

theorem plus_inj {a b k : List UInt8} (ha : a.length = 16) (hb : b.length = 16) (h : plus a k = plus b k) : a = b := by
  refine ext16 ha hb fun i hi => ?_
  have := congrArg (fun l => l.getD i 0) h
  simp only [plus, mk16_at _ i hi] at this
  exact xor_inj_right this
theorem swapped_inj {a b : List UInt8} (ha : a.length = 16) (hb : b.length = 16) (h : swapped a = swapped b) : a = b := by
  refine ext16 ha hb fun i hi => ?_
  have := congrArg (fun l => l.getD i 0) h
  simp only [swapped, mk16_at _ i hi] at this
  exact sw_inj this
theorem turn_at : ∀ i, i < 16 → (((i / 4 + (4 - i % 4)) % 4 * 4 + i % 4) / 4 + ((i / 4 + (4 - i % 4)) % 4 * 4 + i % 4) % 4) % 4 * 4 + ((i / 4 + (4 - i % 4)) % 4 * 4 + i % 4) % 4 = i ∧ (i / 4 + (4 - i % 4)) % 4 * 4 + i % 4 < 16 := by decide
theorem turned_inj {a b : List UInt8} (ha : a.length = 16) (hb : b.length = 16) (h : turned a = turned b) : a = b := by
  refine ext16 ha hb fun i hi => ?_
  obtain ⟨h1, h2⟩ := turn_at i hi
  have := congrArg (fun l => l.getD ((i / 4 + (4 - i % 4)) % 4 * 4 + i % 4) 0) h
  simp only [turned, mk16_at _ _ h2] at this
  rw [h1] at this
  exact this

/-- A column mixed: four times is nothing. -/
def m0 (a b c d : UInt8) : UInt8 := tw a ^^^ th b ^^^ c ^^^ d
def f2 (a : UInt8) : UInt8 := tw (tw a)
theorem f2_xor (a b : UInt8) : f2 (a ^^^ b) = f2 a ^^^ f2 b := by rw [f2, f2, f2, tw_xor, tw_xor]
theorem m0_twice (a b c d : UInt8) : m0 (m0 a b c d) (m0 b c d a) (m0 c d a b) (m0 d a b c) = a ^^^ f2 (a ^^^ c) := by
  simp only [m0, th, f2, tw_xor]
  generalize tw (tw a) = a2
  generalize tw (tw b) = b2
  generalize tw (tw c) = c2
  generalize tw a = a1
  generalize tw b = b1
  generalize tw c = c1
  generalize tw d = d1
  simp only [xor_comm, xor_left_comm, xor_cancel, xor_self, xor_zero]
theorem q_twice (a c : UInt8) : (a ^^^ f2 (a ^^^ c)) ^^^ f2 ((a ^^^ f2 (a ^^^ c)) ^^^ (c ^^^ f2 (c ^^^ a))) = a := by
  rw [xor_comm c a]
  generalize hx : f2 (a ^^^ c) = x
  rw [show (a ^^^ x) ^^^ (c ^^^ x) = a ^^^ c by rw [xor4, xor_self, xor_zero], hx, xor_assoc, xor_self, xor_zero]
theorem m0_inj {a b c d a' b' c' d' : UInt8} (h0 : m0 a b c d = m0 a' b' c' d') (h1 : m0 b c d a = m0 b' c' d' a') (h2 : m0 c d a b = m0 c' d' a' b') (h3 : m0 d a b c = m0 d' a' b' c') : a = a' := by
  have e0 := m0_twice a b c d
  have e2 := m0_twice c d a b
  rw [h0, h1, h2, h3, m0_twice] at e0
  rw [h0, h1, h2, h3, m0_twice] at e2
  rw [← q_twice a c, ← q_twice a' c', ← e0, ← e2]
theorem mixAt_m0 (s : List UInt8) (c : Nat) : mixAt s c 0 = m0 (s.getD (4 * c) 0) (s.getD (4 * c + 1) 0) (s.getD (4 * c + 2) 0) (s.getD (4 * c + 3) 0) ∧ mixAt s c 1 = m0 (s.getD (4 * c + 1) 0) (s.getD (4 * c + 2) 0) (s.getD (4 * c + 3) 0) (s.getD (4 * c) 0) ∧ mixAt s c 2 = m0 (s.getD (4 * c + 2) 0) (s.getD (4 * c + 3) 0) (s.getD (4 * c) 0) (s.getD (4 * c + 1) 0) ∧ mixAt s c 3 = m0 (s.getD (4 * c + 3) 0) (s.getD (4 * c) 0) (s.getD (4 * c + 1) 0) (s.getD (4 * c + 2) 0) := ⟨rfl, rfl, rfl, rfl⟩
theorem mixed_inj {a b : List UInt8} (ha : a.length = 16) (hb : b.length = 16) (h : mixed a = mixed b) : a = b := by
  have e : ∀ c, c < 4 → ∀ r, r < 4 → mixAt a c r = mixAt b c r := by
    intro c hc r hr
    have := congrArg (fun l => l.getD (4 * c + r) 0) h
    simp only [mixed, mk16_at _ (4 * c + r) (by omega)] at this
    rw [show (4 * c + r) / 4 = c by omega, show (4 * c + r) % 4 = r by omega] at this
    exact this
  refine ext16 ha hb fun i hi => ?_
  have hc : i / 4 < 4 := by omega
  have e0 := e _ hc 0 (by decide)
  have e1 := e _ hc 1 (by decide)
  have e2 := e _ hc 2 (by decide)
  have e3 := e _ hc 3 (by decide)
  obtain ⟨a0, a1, a2, a3⟩ := mixAt_m0 a (i / 4)
  obtain ⟨b0, b1, b2, b3⟩ := mixAt_m0 b (i / 4)
  rw [a0, b0] at e0
  rw [a1, b1] at e1
  rw [a2, b2] at e2
  rw [a3, b3] at e3
  have hi4 : i % 4 < 4 := by omega
  have hx : i = 4 * (i / 4) + i % 4 := by omega
  generalize i / 4 = c at *
  generalize i % 4 = r at *
  subst hx
  match r, hi4 with
  | 0, _ => exact m0_inj e0 e1 e2 e3
  | 1, _ => exact m0_inj e1 e2 e3 e0
  | 2, _ => exact m0_inj e2 e3 e0 e1
  | 3, _ => exact m0_inj e3 e0 e1 e2

/-- The word ahead, as it is added. -/
def lst (L : List UInt8) (n : Nat) : List UInt8 :=
  let a := L.getD (12 + 4 * n) 0
  let b := L.getD (13 + 4 * n) 0
  let c := L.getD (14 + 4 * n) 0
  let d := L.getD (15 + 4 * n) 0
  if n % 4 = 0 then [sw b ^^^ twi (n / 4) 1, sw c, sw d, sw a] else [a, b, c, d]
def nw (L : List UInt8) (n : Nat) : List UInt8 :=
  [L.getD (4 * n) 0 ^^^ (lst L n).getD 0 0, L.getD (4 * n + 1) 0 ^^^ (lst L n).getD 1 0, L.getD (4 * n + 2) 0 ^^^ (lst L n).getD 2 0, L.getD (4 * n + 3) 0 ^^^ (lst L n).getD 3 0]
/-- The first 16 + 4 n bytes of all keys. -/
def KS (key : List UInt8) : Nat → List UInt8
  | 0 => key
  | n + 1 => KS key n ++ nw (KS key n) n
def ex (key : List UInt8) : List UInt8 := KS key 40
theorem lst_length (L : List UInt8) (n : Nat) : (lst L n).length = 4 := by
  unfold lst
  split <;> rfl
theorem nw_length (L : List UInt8) (n : Nat) : (nw L n).length = 4 := rfl
theorem KS_length (key : List UInt8) (h : key.length = 16) (n : Nat) : (KS key n).length = 16 + 4 * n := by
  induction n with
  | zero => exact h
  | succ n ih => rw [KS, List.length_append, ih, nw_length]; omega
theorem ex_length (key : List UInt8) (h : key.length = 16) : (ex key).length = 176 := KS_length key h 40
theorem getD_app_left (a b : List UInt8) (i : Nat) (h : i < a.length) : (a ++ b).getD i 0 = a.getD i 0 := by
  rw [List.getD_eq_getElem?_getD, List.getD_eq_getElem?_getD, List.getElem?_append_left h]
theorem getD_app_right (a b : List UInt8) (i : Nat) (h : a.length ≤ i) : (a ++ b).getD i 0 = b.getD (i - a.length) 0 := by
  rw [List.getD_eq_getElem?_getD, List.getD_eq_getElem?_getD, List.getElem?_append_right h]
theorem KS_more (key : List UInt8) (h : key.length = 16) (n m i : Nat) (hi : i < 16 + 4 * n) : (KS key (n + m)).getD i 0 = (KS key n).getD i 0 := by
  induction m with
  | zero => rfl
  | succ m ih => rw [← Nat.add_assoc, KS, getD_app_left _ _ _ (by rw [KS_length key h]; omega), ih]
theorem KS_ex (key : List UInt8) (h : key.length = 16) (n i : Nat) (hn : n ≤ 40) (hi : i < 16 + 4 * n) : (ex key).getD i 0 = (KS key n).getD i 0 := by
  have := KS_more key h n (40 - n) i hi
  rw [show n + (40 - n) = 40 by omega] at this
  exact this
theorem nw_at (L : List UInt8) (n : Nat) : ∀ j, j < 4 → (nw L n).getD j 0 = L.getD (4 * n + j) 0 ^^^ (lst L n).getD j 0
  | 0, _ => rfl | 1, _ => rfl | 2, _ => rfl | 3, _ => rfl
  | j + 4, h => absurd h (by omega)
theorem lst_yes (L : List UInt8) (n : Nat) (h : n % 4 = 0) : lst L n = [sw (L.getD (13 + 4 * n) 0) ^^^ twi (n / 4) 1, sw (L.getD (14 + 4 * n) 0), sw (L.getD (15 + 4 * n) 0), sw (L.getD (12 + 4 * n) 0)] := if_pos h
theorem lst_no (L : List UInt8) (n : Nat) (h : n % 4 ≠ 0) : lst L n = [L.getD (12 + 4 * n) 0, L.getD (13 + 4 * n) 0, L.getD (14 + 4 * n) 0, L.getD (15 + 4 * n) 0] := if_neg h

def rest (s : List UInt8) (i : Nat) : List UInt8 := if i < 10 then mixed (turned (swapped s)) else turned (swapped s)
def key16 (k : List UInt8) (i : Nat) : List UInt8 := (k.drop (16 * i)).take 16
/-- The state behind i rounds. -/
def St (k block : List UInt8) : Nat → List UInt8
  | 0 => plus block (key16 k 0)
  | i + 1 => plus (rest (St k block i) (i + 1)) (key16 k (i + 1))
def enc (key block : List UInt8) : List UInt8 := St (ex key) block 10
theorem rest_length (s : List UInt8) (i : Nat) : (rest s i).length = 16 := by
  unfold rest
  split
  · exact mixed_length _
  · exact turned_length _
theorem St_length (k block : List UInt8) (i : Nat) : (St k block i).length = 16 := by
  cases i <;> exact plus_length _ _
theorem enc_length (key block : List UInt8) : (enc key block).length = 16 := St_length _ _ _
theorem rest_inj {a b : List UInt8} {i : Nat} (ha : a.length = 16) (hb : b.length = 16) (h : rest a i = rest b i) : a = b := by
  unfold rest at h
  refine swapped_inj ha hb (turned_inj (swapped_length _) (swapped_length _) ?_)
  split at h
  · exact mixed_inj (turned_length _) (turned_length _) h
  · exact h
theorem St_inj {k a b : List UInt8} (ha : a.length = 16) (hb : b.length = 16) (i : Nat) (h : St k a i = St k b i) : a = b := by
  induction i with
  | zero => exact plus_inj ha hb h
  | succ i ih => exact ih (rest_inj (St_length _ _ _) (St_length _ _ _) (plus_inj (rest_length _ _) (rest_length _ _) h))
theorem enc_inj {key a b : List UInt8} (ha : a.length = 16) (hb : b.length = 16) (h : enc key a = enc key b) : a = b := St_inj ha hb 10 h
theorem enc_ex : enc [0, 1, 2, 3, 4, 5, 6, 7, 8, 9, 10, 11, 12, 13, 14, 15] [0, 17, 34, 51, 68, 85, 102, 119, 136, 153, 170, 187, 204, 221, 238, 255] = [105, 196, 224, 216, 106, 123, 4, 48, 216, 205, 183, 128, 112, 180, 197, 90] := by decide +kernel
theorem tm_ex : tm 87 131 = 193 := by decide +kernel
theorem sw_ex : sw 0 = 99 := by decide +kernel
end Ae
