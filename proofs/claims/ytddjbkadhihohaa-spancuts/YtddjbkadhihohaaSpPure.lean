/- Floating-point words that hold halves of whole numbers, exactly. -/
import Derived.Laws.FloatArith
import Derived.Laws.ComplexArith
namespace Go.Proofs.Ytddjbkadhihohaa
namespace Sp

/-- The word of n halves. -/
def hf (n : Int) : Nat := Ieee.double.nearest (decide (n < 0)) n.natAbs (-1)

theorem log2_le (m : Nat) (h0 : m ≠ 0) (h : m < 2 ^ 53) : m.log2 ≤ 52 := by
  have := (Nat.log2_lt h0).2 h
  omega
theorem mag_lo (m : Nat) (h0 : m ≠ 0) (h : m < 2 ^ 53) : 2 ^ 52 ≤ m * 2 ^ (52 - m.log2) := by
  have h1 := log2_le m h0 h
  have h2 := Nat.log2_self_le h0
  calc 2 ^ 52 = 2 ^ m.log2 * 2 ^ (52 - m.log2) := by rw [← Nat.pow_add]; congr 1; omega
    _ ≤ _ := Nat.mul_le_mul_right _ h2
theorem mag_hi (m : Nat) (h0 : m ≠ 0) (h : m < 2 ^ 53) : m * 2 ^ (52 - m.log2) < 2 ^ 53 := by
  have h1 := log2_le m h0 h
  have h2 : m < 2 ^ (m.log2 + 1) := Nat.lt_log2_self
  calc m * 2 ^ (52 - m.log2) < 2 ^ (m.log2 + 1) * 2 ^ (52 - m.log2) := Nat.mul_lt_mul_of_pos_right h2 (Nat.two_pow_pos _)
    _ = 2 ^ 53 := by rw [← Nat.pow_add]; congr 1; omega
theorem log2_shift (m k : Nat) (h0 : m ≠ 0) : (m * 2 ^ k).log2 = m.log2 + k := by
  have h1 := Nat.log2_self_le h0
  have h2 : m < 2 ^ (m.log2 + 1) := Nat.lt_log2_self
  have hz : m * 2 ^ k ≠ 0 := Nat.mul_ne_zero h0 (Nat.ne_of_gt (Nat.two_pow_pos _))
  refine (Nat.log2_eq_iff hz).2 ⟨?_, ?_⟩
  · rw [Nat.pow_add]; exact Nat.mul_le_mul_right _ h1
  · rw [show m.log2 + k + 1 = (m.log2 + 1) + k by omega, Nat.pow_add]
    exact Nat.mul_lt_mul_of_pos_right h2 (Nat.two_pow_pos _)

theorem cut_none (neg : Bool) (m : Nat) : Ieee.Toward.even.cut neg m 0 = m := by
  simp [Ieee.Toward.cut, Nat.mod_one]
theorem cut_exact (neg : Bool) (m d : Nat) : Ieee.Toward.even.cut neg (m * 2 ^ d) d = m := by
  by_cases h0 : m = 0
  · subst h0
    simp only [Ieee.Toward.cut, Nat.zero_mul, Nat.zero_div, Nat.zero_mod, Nat.mul_zero]
    have : 0 < 1 <<< min d (Nat.log2 0 + 2) := by rw [Nat.one_shiftLeft]; exact Nat.two_pow_pos _
    generalize 1 <<< min d (Nat.log2 0 + 2) = g at this
    have e : (g == 0) = false := by simp; omega
    simp [e]
  · have hd : min d ((m * 2 ^ d).log2 + 2) = d := by rw [log2_shift m d h0]; omega
    have hp : 0 < 2 ^ d := Nat.two_pow_pos d
    simp only [Ieee.Toward.cut, hd, Nat.one_shiftLeft, Nat.mul_mod_left, Nat.mul_zero, Nat.mul_div_cancel _ hp]
    have e : (2 ^ d == 0) = false := by simp
    simp [e]

/-- Of a number that a word holds exactly the place makes no odds. -/
theorem near_eq (neg : Bool) (m k : Nat) (p : Int) (h0 : m ≠ 0) (h : m < 2 ^ 53) (hp : -1 ≤ p) (hq : p ≤ 0) :
    Ieee.double.nearest neg (m * 2 ^ k) (p - k) = Ieee.double.word neg ((p + 1074 - (52 - m.log2 : Nat)).toNat * 2 ^ 52 + m * 2 ^ (52 - m.log2)) := by
  have hl := log2_le m h0 h
  have hz : m * 2 ^ k ≠ 0 := Nat.mul_ne_zero h0 (Nat.ne_of_gt (Nat.two_pow_pos _))
  have hhi := mag_hi m h0 h
  have hlp : Ieee.double.leastPlace = -1074 := by decide
  have hfb : Ieee.double.fractionBits = 52 := rfl
  have hbi : Ieee.double.binade = 2 ^ 52 := rfl
  have hir : Ieee.double.infRung = 2047 * 2 ^ 52 := by decide
  obtain ⟨q, hqd⟩ : ∃ q, q = 52 - m.log2 := ⟨_, rfl⟩
  have hq52 : q ≤ 52 := by omega
  rw [← hqd] at hhi ⊢
  unfold Ieee.Format.nearest
  rw [if_neg hz]
  simp only [log2_shift m k h0, hlp, hfb, hbi, hir]
  have hlast : max (p - (k : Int) + ((m.log2 + k : Nat) : Int) - ((52 : Nat) : Int)) (-1074) = p - (q : Nat) := by omega
  rw [hlast]
  have hsh : (m * 2 ^ k) <<< (p - (k : Int) - (p - (q : Nat))).toNat = m * 2 ^ q * 2 ^ (p - (q : Nat) - (p - (k : Int))).toNat := by
    rw [Nat.shiftLeft_eq, Nat.mul_assoc, Nat.mul_assoc, ← Nat.pow_add, ← Nat.pow_add]
    congr 2
    omega
  rw [hsh, cut_exact]
  have e : (p - (q : Nat) - -1074).toNat = (p + 1074 - (q : Nat)).toNat := by congr 1; omega
  rw [e, Nat.min_eq_left]
  have : (p + 1074 - (q : Nat)).toNat ≤ 1074 := by omega
  omega

theorem near_move (neg : Bool) (m k : Nat) (p : Int) (h : m < 2 ^ 53) (hp : -1 ≤ p) (hq : p ≤ 0) :
    Ieee.double.nearest neg (m * 2 ^ k) (p - k) = Ieee.double.nearest neg m p := by
  by_cases h0 : m = 0
  · subst h0
    simp [Ieee.Format.nearest]
  · have h1 := near_eq neg m k p h0 h hp hq
    have h2 := near_eq neg m 0 p h0 h hp hq
    rw [h1, ← h2]
    simp

theorem hf_zero : hf 0 = 0 := by decide
/-- What the word of n halves stands for. -/
theorem read_hf (n : Int) (h : n.natAbs < 2 ^ 53) : ∃ k : Nat, Ieee.double.read (hf n) = .number (decide (n < 0)) (n.natAbs * 2 ^ k) (-1 - (k : Int)) := by
  by_cases h0 : n.natAbs = 0
  · obtain rfl : n = 0 := Int.natAbs_eq_zero.1 h0
    obtain ⟨k, hk⟩ : ∃ k : Nat, k = 1073 := ⟨_, rfl⟩
    exact ⟨k, by rw [hf_zero, show Int.natAbs 0 = 0 from rfl, Nat.zero_mul, hk]; decide⟩
  · refine ⟨52 - n.natAbs.log2, ?_⟩
    have hl := log2_le _ h0 h
    have hlo := mag_lo _ h0 h
    have hhi := mag_hi _ h0 h
    have e := near_eq (decide (n < 0)) n.natAbs 0 (-1) h0 h (by omega) (by omega)
    rw [Nat.pow_zero, Nat.mul_one, show (-1 : Int) - ((0 : Nat) : Int) = -1 by omega] at e
    unfold hf
    rw [e]
    clear e
    generalize n.natAbs * 2 ^ (52 - n.natAbs.log2) = M at *
    generalize hqd : 52 - n.natAbs.log2 = q at *
    have hq52 : q ≤ 52 := by omega
    have hR : ((-1 : Int) + 1074 - (q : Nat)).toNat = 1073 - q := by omega
    rw [hR]
    have hsw : Ieee.double.signWeight = 2 ^ 63 := rfl
    have hlp : Ieee.double.leastPlace = -1074 := by decide
    have hbi : Ieee.double.binade = 2 ^ 52 := rfl
    have hir : Ieee.double.infRung = 2047 * 2 ^ 52 := by decide
    have hmod : Ieee.double.word (decide (n < 0)) ((1073 - q) * 2 ^ 52 + M) % 2 ^ 63 = (1073 - q) * 2 ^ 52 + M := by
      unfold Ieee.Format.word
      rw [hsw]
      split <;> omega
    have hneg : (Ieee.double.word (decide (n < 0)) ((1073 - q) * 2 ^ 52 + M) / 2 ^ 63 % 2 == 1) = decide (n < 0) := by
      unfold Ieee.Format.word
      rw [hsw]
      by_cases hn : n < 0
      · simp only [hn, decide_true, if_true]
        rw [beq_iff_eq]; omega
      · simp only [hn, decide_false]
        rw [beq_eq_false_iff_ne]; simp only [Bool.false_eq_true, if_false]; omega
    unfold Ieee.Format.read
    simp only [hsw, hbi, hir, hlp, hmod, hneg]
    rw [if_neg (by omega), if_pos (by omega)]
    have e1 : ((1073 - q) * 2 ^ 52 + M) % 2 ^ 52 = M - 2 ^ 52 := by omega
    have e2 : ((1073 - q) * 2 ^ 52 + M) / 2 ^ 52 = 1074 - q := by omega
    have e3 : 2 ^ 52 + (M - 2 ^ 52) = M := by omega
    have e4 : (-1074 : Int) + ((1074 - q - 1 : Nat) : Int) = -1 - (q : Int) := by omega
    rw [e1, e2, e3, e4]

theorem signed_eq (n : Int) (k j : Nat) : Ieee.signed (decide (n < 0)) (n.natAbs * 2 ^ k) j = n * 2 ^ (k + j) := by
  unfold Ieee.signed
  rw [Nat.shiftLeft_eq, Nat.mul_assoc, ← Nat.pow_add]
  by_cases h : n < 0
  · simp only [h, decide_true, if_true]
    rw [Int.natCast_mul, Int.natCast_pow, ← Int.neg_mul]
    congr 1; omega
  · simp only [h, decide_false, Bool.false_eq_true, if_false]
    rw [Int.natCast_mul, Int.natCast_pow]
    congr 1; omega

theorem compare_scale (a b : Int) (k : Nat) : compare (a * 2 ^ k) (b * 2 ^ k) = compare a b := by
  have hp : (0 : Int) < 2 ^ k := Int.pow_pos (by decide)
  show compareOfLessAndEq _ _ = compareOfLessAndEq _ _
  unfold compareOfLessAndEq
  have h1 : (a * 2 ^ k < b * 2 ^ k) ↔ a < b := Int.mul_lt_mul_right hp
  have h2 : (a * 2 ^ k = b * 2 ^ k) ↔ a = b := ⟨fun h => Int.eq_of_mul_eq_mul_right (Int.ne_of_gt hp) h, fun h => by rw [h]⟩
  simp only [h1, h2]

theorem order_hf (a b : Int) (ha : a.natAbs < 2 ^ 53) (hb : b.natAbs < 2 ^ 53) : Ieee.double.order (hf a) (hf b) = some (compare a b) := by
  obtain ⟨k, hk⟩ := read_hf a ha
  obtain ⟨l, hl⟩ := read_hf b hb
  unfold Ieee.Format.order
  rw [hk, hl]
  simp only [Ieee.Datum.order, signed_eq]
  have e1 : k + (-1 - (k : Int) - min (-1 - (k : Int)) (-1 - (l : Int))).toNat = max k l := by omega
  have e2 : l + (-1 - (l : Int) - min (-1 - (k : Int)) (-1 - (l : Int))).toNat = max k l := by omega
  rw [e1, e2, compare_scale]

theorem add_hf (a b : Int) (ha : a.natAbs < 2 ^ 53) (hb : b.natAbs < 2 ^ 53) (hab : (a + b).natAbs < 2 ^ 53) : Ieee.double.add (hf a) (hf b) = some (hf (a + b)) := by
  obtain ⟨k, hk⟩ := read_hf a ha
  obtain ⟨l, hl⟩ := read_hf b hb
  unfold Ieee.Format.add
  rw [hk, hl]
  simp only [Ieee.Datum.sum, signed_eq, Option.map_some, Option.some.injEq]
  have e1 : k + (-1 - (k : Int) - min (-1 - (k : Int)) (-1 - (l : Int))).toNat = max k l := by omega
  have e2 : l + (-1 - (l : Int) - min (-1 - (k : Int)) (-1 - (l : Int))).toNat = max k l := by omega
  have e3 : min (-1 - (k : Int)) (-1 - (l : Int)) = -1 - ((max k l : Nat) : Int) := by omega
  rw [e1, e2, e3, ← Int.add_mul]
  generalize max k l = M
  have hp : (0 : Int) < 2 ^ M := Int.pow_pos (by decide)
  have hz : (a + b) * 2 ^ M = 0 ↔ a + b = 0 := by
    rw [Int.mul_eq_zero]
    exact ⟨fun h => h.resolve_right (Int.ne_of_gt hp), Or.inl⟩
  have hlt : (a + b) * 2 ^ M < 0 ↔ a + b < 0 := by
    have : (a + b) * 2 ^ M < 0 * 2 ^ M ↔ a + b < 0 := Int.mul_lt_mul_right hp
    rwa [Int.zero_mul] at this
  have hna : ((a + b) * 2 ^ M).natAbs = (a + b).natAbs * 2 ^ M := by rw [Int.natAbs_mul, Int.natAbs_pow]; rfl
  have hs : (if (a + b) * 2 ^ M = 0 then decide (a < 0) && decide (b < 0) else decide ((a + b) * 2 ^ M < 0)) = decide (a + b < 0) := by
    by_cases h : a + b = 0
    · rw [if_pos (hz.2 h)]
      by_cases h1 : a < 0
      · have h2 : ¬ b < 0 := by omega
        have h3 : ¬ a + b < 0 := by omega
        simp [h2, h3]
      · have h3 : ¬ a + b < 0 := by omega
        simp [h1, h3]
    · rw [if_neg (fun e => h (hz.1 e))]
      simp only [hlt]
  rw [hs, hna]
  exact near_move _ _ M (-1) hab (by omega) (by omega)

theorem hf_inj (a b : Int) (ha : a.natAbs < 2 ^ 53) (hb : b.natAbs < 2 ^ 53) (h : hf a = hf b) : a = b := by
  have h1 := order_hf a b ha hb
  have h2 := order_hf b b hb hb
  rw [h, h2] at h1
  simp only [Option.some.injEq] at h1
  have h3 : compare b b = .eq := by show compareOfLessAndEq _ _ = _; simp [compareOfLessAndEq]
  rw [h3] at h1
  have h4 : compareOfLessAndEq a b = .eq := h1.symm
  unfold compareOfLessAndEq at h4
  split at h4
  · cases h4
  · split at h4
    · assumption
    · cases h4

/-- Cut towards nought: the whole part, of what is not below nought. -/
theorem int_hf (n : Int) (h0 : 0 ≤ n) (h : n.natAbs < 2 ^ 53) : (Ieee.double.read (hf n)).toInt .zero = some (n / 2) := by
  obtain ⟨k, hk⟩ := read_hf n h
  rw [hk]
  have hd : decide (n < 0) = false := by simp; omega
  rw [hd]
  simp only [Ieee.Datum.toInt, Ieee.Datum.integral]
  have e1 : (-1 - (k : Int)).toNat = 0 := by omega
  have e2 : (-(-1 - (k : Int))).toNat = k + 1 := by omega
  rw [e1, e2, Nat.shiftLeft_zero]
  have hc : Ieee.Toward.zero.cut false (n.natAbs * 2 ^ k) (k + 1) = n.natAbs / 2 := by
    by_cases hz : n.natAbs = 0
    · simp [hz, Ieee.Toward.cut]
    · have hm : min (k + 1) ((n.natAbs * 2 ^ k).log2 + 2) = k + 1 := by rw [log2_shift _ k hz]; omega
      simp only [Ieee.Toward.cut, hm, Nat.one_shiftLeft, Bool.toNat_false, Nat.add_zero]
      rw [Nat.pow_succ, Nat.mul_comm (2 ^ k) 2, Nat.mul_div_mul_right _ _ (Nat.two_pow_pos k)]
  rw [hc]
  simp only [Ieee.signed, Bool.false_eq_true, if_false, Nat.shiftLeft_zero, Option.some.injEq]
  omega

/-- A whole number as a word. -/
theorem of_int (n : Int) (h : n.natAbs < 2 ^ 52) : floatOfInt .f64 n = hf (2 * n) := by
  have h1 := near_move (decide (n < 0)) n.natAbs 1 0 (by omega) (by omega) (by omega)
  have h2 : decide (2 * n < 0) = decide (n < 0) := by rw [decide_eq_decide]; omega
  show Ieee.double.nearest (decide (n < 0)) n.natAbs 0 = Ieee.double.nearest (decide (2 * n < 0)) (2 * n).natAbs (-1)
  rw [← h1, h2, show (2 * n).natAbs = n.natAbs * 2 ^ 1 by omega]
  rfl

theorem half_word : hf 1 = 4602678819172646912 := by decide
theorem one_word : hf 2 = 4607182418800017408 := by decide
end Sp
end Go.Proofs.Ytddjbkadhihohaa
