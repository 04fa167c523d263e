/- ShaPads' walk. -/
import Derived.Test.YtgdfgaobaaledaaDoorW11
namespace Go.Proofs.YtgdfgaobaaledaaDoor
open Go.RowKit

theorem byt_eq {a b : Nat} (h : Sh.byt a = Sh.byt b) : a % 256 = b % 256 := by
  have := congrArg UInt8.toNat h
  rwa [Sh.byt, Sh.byt, UInt8.toNat_ofNat', UInt8.toNat_ofNat'] at this
theorem cnt_list (n : Nat) : Sh.cnt n = [Sh.byt (8 * n % 18446744073709551616 / 72057594037927936), Sh.byt (8 * n % 18446744073709551616 / 281474976710656), Sh.byt (8 * n % 18446744073709551616 / 1099511627776), Sh.byt (8 * n % 18446744073709551616 / 4294967296), Sh.byt (8 * n % 18446744073709551616 / 16777216), Sh.byt (8 * n % 18446744073709551616 / 65536), Sh.byt (8 * n % 18446744073709551616 / 256), Sh.byt (8 * n % 18446744073709551616 / 1)] := rfl
theorem cnt_inj {n m : Nat} (hn : n ≤ 1152921504606846976) (hm : m ≤ 1152921504606846976) (h : Sh.cnt n = Sh.cnt m) : n = m := by
  rw [cnt_list, cnt_list] at h
  have en : 8 * n % 18446744073709551616 = 8 * n := by omega
  have em : 8 * m % 18446744073709551616 = 8 * m := by omega
  rw [en, em] at h
  simp only [List.cons.injEq, and_true] at h
  obtain ⟨h7, h6, h5, h4, h3, h2, h1, h0⟩ := h
  have g7 := byt_eq h7
  have g6 := byt_eq h6
  have g5 := byt_eq h5
  have g4 := byt_eq h4
  have g3 := byt_eq h3
  have g2 := byt_eq h2
  have g1 := byt_eq h1
  have g0 := byt_eq h0
  clear h7 h6 h5 h4 h3 h2 h1 h0 en em
  rw [Nat.div_one, Nat.div_one] at g0
  have k1 : 8 * n % 65536 = 8 * m % 65536 := by omega
  have k2 : 8 * n % 16777216 = 8 * m % 16777216 := by omega
  have k3 : 8 * n % 4294967296 = 8 * m % 4294967296 := by omega
  have k4 : 8 * n % 1099511627776 = 8 * m % 1099511627776 := by omega
  have k5 : 8 * n % 281474976710656 = 8 * m % 281474976710656 := by omega
  have k6 : 8 * n % 72057594037927936 = 8 * m % 72057594037927936 := by omega
  omega
theorem pad_inj {n m : Nat} (hn : n ≤ 1152921504606846976) (hm : m ≤ 1152921504606846976) (h : Sh.pad n = Sh.pad m) : n = m := by
  have hl : Sh.noughts n = Sh.noughts m := by
    have := congrArg List.length h
    rw [Sh.pad_length, Sh.pad_length] at this
    omega
  have h2 : 128 :: (List.replicate (Sh.noughts n) 0 ++ Sh.cnt n) = 128 :: (List.replicate (Sh.noughts m) 0 ++ Sh.cnt m) := h
  rw [hl] at h2
  injection h2 with _ h3
  exact cnt_inj hn hm (List.append_cancel_left h3)

set_option maxRecDepth 100000 in
set_option maxHeartbeats 1000000 in
theorem shaPads_in (n m : Nat) (w : World) (HT : Tabs w) (hn : n ≤ 1152921504606846976) (hm : m ≤ 1152921504606846976) :
    Calls Tryd.prog 6 #[.int .i64 n, .int .i64 m] w fun e w' => e = .returned (.bool true) ∧ Below w.heap.size w w' := by
  have HPN := Lib.hid fun W => pad_any n W (by omega)
  have HPM := Lib.hid fun W => pad_any m W (by omega)
  have hl := Sh.pad_length n
  have hle := Sh.pad_le n
  have hmod : ((n : Int) + ((Sh.pad n).length : Int)) % 64 = 0 := by rw [hl]; unfold Sh.noughts; omega
  have hb : ((n : Int) == (m : Int)) = (Sh.pad n == Sh.pad m) := by
    by_cases h : n = m
    · subst h; simp
    · have h1 : ¬ Sh.pad n = Sh.pad m := fun e => h (pad_inj hn hm e)
      rw [beq_eq_false_iff_ne.2 h1, beq_eq_false_iff_ne]
      omega
  have h9 : 9 ≤ (Sh.pad n).length := by omega
  obtain ⟨p, hp⟩ : ∃ p, Sh.pad n = 128 :: p := ⟨_, rfl⟩
  rw [hp] at HPN hmod hb hle h9
  clear hl hp
  generalize Sh.pad m = q at *
  have HB := Lib.hid hb
  have hp1 : p.length ≤ 71 := by simpa using hle
  have hp2 : 8 ≤ p.length := by simpa using h9
  have hmd : (((n : Int) + ((p.length : Int) + 1)) % 64 == 0) = true := by
    have : ((128 :: p).length : Int) = (p.length : Int) + 1 := by simp
    rw [this] at hmod
    simp [hmod]
  clear hmod hle h9
  go_enter Tryd.func6, Tryd.ntmps6
  go_wp2_with fail
  refine (works_any w HT).mono ?_
  rintro _ w1 ⟨rfl, hb1⟩
  go_wp2_with fail
  refine (HPN.out _).mono ?_
  rintro _ w2 ⟨rfl, hb2⟩
  go_wp2_with fail
  refine (HPM.out _).mono ?_
  rintro _ w3 ⟨rfl, hb3⟩
  have b2 := hb1.trans (hb2.mono hb1.size)
  have b3 := b2.trans (hb3.mono b2.size)
  clear hb1 hb2 hb3 b2 HPN HPM
  go_wp2
  all_goals go_ret
  all_goals exact ⟨rfl, b3⟩

set_option maxRecDepth 100000 in
set_option maxHeartbeats 1000000 in
theorem shaPads_neg (n m : Int) (w : World) (HT : Tabs w) (hn : n < 0) :
    Calls Tryd.prog 6 #[.int .i64 n, .int .i64 m] w fun e w' => e = .returned (.bool true) ∧ Below w.heap.size w w' := by
  go_enter Tryd.func6, Tryd.ntmps6
  go_wp2_with fail
  refine (works_any w HT).mono ?_
  rintro _ w1 ⟨rfl, hb1⟩
  go_wp2_with fail
  refine (pad_neg n _ hn).mono ?_
  rintro _ w2 ⟨rfl, rfl⟩
  go_wp2
  all_goals go_ret
  all_goals exact ⟨rfl, hb1⟩

set_option maxRecDepth 100000 in
set_option maxHeartbeats 1000000 in
theorem shaPads_far (n m : Int) (w : World) (HT : Tabs w) (hn : 0 ≤ n) (h : m < 0 ∨ 1152921504606846976 < n ∨ 1152921504606846976 < m) :
    Calls Tryd.prog 6 #[.int .i64 n, .int .i64 m] w fun e w' => e = .returned (.bool true) ∧ Below w.heap.size w w' := by
  by_cases h1 : m < 0
  · go_enter Tryd.func6, Tryd.ntmps6
    go_wp2_with fail
    refine (works_any w HT).mono ?_
    rintro _ w1 ⟨rfl, hb1⟩
    go_wp2
    all_goals go_ret
    all_goals exact ⟨rfl, hb1⟩
  · by_cases h2 : 1152921504606846976 < n
    · go_enter Tryd.func6, Tryd.ntmps6
      go_wp2_with fail
      refine (works_any w HT).mono ?_
      rintro _ w1 ⟨rfl, hb1⟩
      go_wp2
      all_goals go_ret
      all_goals exact ⟨rfl, hb1⟩
    · have h3 : 1152921504606846976 < m := by omega
      clear h
      go_enter Tryd.func6, Tryd.ntmps6
      go_wp2_with fail
      refine (works_any w HT).mono ?_
      rintro _ w1 ⟨rfl, hb1⟩
      go_wp2
      all_goals go_ret
      all_goals exact ⟨rfl, hb1⟩

theorem shaPads_walk (n m : Int) (w : World) (HT : Tabs w) :
    Calls Tryd.prog 6 #[.int .i64 n, .int .i64 m] w fun e w' => e = .returned (.bool true) ∧ Below w.heap.size w w' := by
  by_cases h0 : n < 0
  · exact shaPads_neg n m w HT h0
  · by_cases h1 : m < 0 ∨ 1152921504606846976 < n ∨ 1152921504606846976 < m
    · exact shaPads_far n m w HT (by omega) h1
    · obtain ⟨a, rfl⟩ := Int.eq_ofNat_of_zero_le (show 0 ≤ n by omega)
      obtain ⟨b, rfl⟩ := Int.eq_ofNat_of_zero_le (show 0 ≤ m by omega)
      exact shaPads_in a b w HT (by omega) (by omega)
end Go.Proofs.YtgdfgaobaaledaaDoor
