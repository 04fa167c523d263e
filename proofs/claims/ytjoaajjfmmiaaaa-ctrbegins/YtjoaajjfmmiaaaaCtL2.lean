/- CtrBegins' walk. -/
import Derived.Test.YtjoaajjfmmiaaaaCtW5
namespace Go.Proofs.Ytjoaajjfmmiaaaa
open Go.RowKit

set_option maxRecDepth 100000 in
theorem ctrBegins_a (k o s : List UInt8) (n : Int) (w : World) (hs : ¬ s.length ≤ 3000) :
    Calls Try.prog 5 #[.string ⟨⟨k⟩⟩, .string ⟨⟨o⟩⟩, .string ⟨⟨s⟩⟩, .int .i64 n] w fun e w' => e = .returned (.bool true) ∧ Below w.heap.size w w' := by
  have hsi : (3000 : Int) < (s.length : Int) := by omega
  clear hs
  go_enter Try.func5, Try.ntmps5
  go_wp2_with fail
  refine (worksC_any w).mono ?_
  rintro _ w1 ⟨rfl, c1⟩
  go_wp2
  go_ret
  exact ⟨rfl, c1⟩
set_option maxRecDepth 100000 in
theorem ctrBegins_b (k o s : List UInt8) (n : Int) (w : World) (hs : s.length ≤ 3000) (hn : n < 0) :
    Calls Try.prog 5 #[.string ⟨⟨k⟩⟩, .string ⟨⟨o⟩⟩, .string ⟨⟨s⟩⟩, .int .i64 n] w fun e w' => e = .returned (.bool true) ∧ Below w.heap.size w w' := by
  have hsi : (s.length : Int) ≤ 3000 := by omega
  clear hs
  go_enter Try.func5, Try.ntmps5
  go_wp2_with fail
  refine (worksC_any w).mono ?_
  rintro _ w1 ⟨rfl, c1⟩
  go_wp2
  go_ret
  exact ⟨rfl, c1⟩
set_option maxRecDepth 100000 in
theorem ctrBegins_c (k o s : List UInt8) (n : Int) (w : World) (hs : s.length ≤ 3000) (hn : 0 ≤ n) (hm : (s.length : Int) < n) :
    Calls Try.prog 5 #[.string ⟨⟨k⟩⟩, .string ⟨⟨o⟩⟩, .string ⟨⟨s⟩⟩, .int .i64 n] w fun e w' => e = .returned (.bool true) ∧ Below w.heap.size w w' := by
  have hsi : (s.length : Int) ≤ 3000 := by omega
  clear hs
  go_enter Try.func5, Try.ntmps5
  go_wp2_with fail
  refine (worksC_any w).mono ?_
  rintro _ w1 ⟨rfl, c1⟩
  go_wp2
  go_ret
  exact ⟨rfl, c1⟩
set_option maxRecDepth 100000 in
theorem ctrBegins_d (k o s : List UInt8) (n : Int) (w : World) (hs : s.length ≤ 3000) (hn : 0 ≤ n) (hm : n ≤ (s.length : Int)) (hk : k.length ≠ 16) :
    Calls Try.prog 5 #[.string ⟨⟨k⟩⟩, .string ⟨⟨o⟩⟩, .string ⟨⟨s⟩⟩, .int .i64 n] w fun e w' => e = .returned (.bool true) ∧ Below w.heap.size w w' := by
  have hsi : (s.length : Int) ≤ 3000 := by omega
  clear hs
  obtain ⟨k1, k2, k3, k4⟩ := len_false hk
  simp only [Int.cast_ofNat_Int] at k1 k3
  clear hk
  go_enter Try.func5, Try.ntmps5
  go_wp2_with fail
  refine (worksC_any w).mono ?_
  rintro _ w1 ⟨rfl, c1⟩
  go_wp2
  go_ret
  exact ⟨rfl, c1⟩
set_option maxRecDepth 100000 in
theorem ctrBegins_e (k o s : List UInt8) (n : Int) (w : World) (hs : s.length ≤ 3000) (hn : 0 ≤ n) (hm : n ≤ (s.length : Int)) (hk : k.length = 16) (ho : o.length ≠ 12) :
    Calls Try.prog 5 #[.string ⟨⟨k⟩⟩, .string ⟨⟨o⟩⟩, .string ⟨⟨s⟩⟩, .int .i64 n] w fun e w' => e = .returned (.bool true) ∧ Below w.heap.size w w' := by
  have hsi : (s.length : Int) ≤ 3000 := by omega
  clear hs
  obtain ⟨k1, k2, k3, k4⟩ := len_true hk
  obtain ⟨o1, o2, o3, o4⟩ := len_false ho
  simp only [Int.cast_ofNat_Int] at k1 k3 o1 o3
  clear hk ho
  go_enter Try.func5, Try.ntmps5
  go_wp2_with fail
  refine (worksC_any w).mono ?_
  rintro _ w1 ⟨rfl, c1⟩
  go_wp2
  go_ret
  exact ⟨rfl, c1⟩

set_option maxRecDepth 100000 in
theorem ctrBegins_yes (k o s : List UInt8) (n : Nat) (w : World) (hk : k.length = 16) (ho : o.length = 12) (hs : s.length ≤ 3000) (hn : n ≤ s.length) :
    Calls Try.prog 5 #[.string ⟨⟨k⟩⟩, .string ⟨⟨o⟩⟩, .string ⟨⟨s⟩⟩, .int .i64 (n : Nat)] w fun e w' => e = .returned (.bool true) ∧ Below w.heap.size w w' := by
  have HA := Lib.hid fun W => Stream_yes k o n W hk ho (by omega)
  have HB := Lib.hid fun W => Stream_yes k o s.length W hk ho (by omega)
  have HC := Lib.hid fun W => Cipher_any k o s W
  have HD := Lib.hid fun W => Cipher_any k o (s.take n) W
  have hbl := Ct.str_length k o s.length
  have hcl := Ct.cipA_full (s := s) hk ho (by omega)
  have hab := Ct.str_begins k o hn
  have hcd := Ct.cipA_take (s := s) hk ho (by omega) hn
  generalize Ct.str k o n = a at *
  generalize Ct.str k o s.length = b at *
  generalize Ct.cipA k o s = c at *
  generalize Ct.cipA k o (s.take n) = d at *
  have cS : (ByteArray.mk ⟨s⟩).extract 0 n = ⟨⟨s.take n⟩⟩ := by rw [cut_str, List.drop_zero, Nat.sub_zero]
  have cB : (ByteArray.mk ⟨b⟩).extract 0 n = ⟨⟨a⟩⟩ := by rw [cut_str, List.drop_zero, Nat.sub_zero, hab]
  have cC : (ByteArray.mk ⟨c⟩).extract 0 n = ⟨⟨d⟩⟩ := by rw [cut_str, List.drop_zero, Nat.sub_zero, hcd]
  obtain ⟨k1, k2, k3, k4⟩ := len_true hk
  obtain ⟨o1, o2, o3, o4⟩ := len_true ho
  simp only [Int.cast_ofNat_Int] at k1 k3 o1 o3
  have hsi : (s.length : Int) ≤ 3000 := by omega
  have hni : (n : Int) ≤ (s.length : Int) := by omega
  have hn0 : ¬ (n : Int) < 0 := by omega
  clear hk ho hab hcd
  generalize s.take n = sn at *
  go_enter Try.func5, Try.ntmps5
  go_wp2_with fail
  refine (worksC_any w).mono ?_
  rintro _ w1 ⟨rfl, c1⟩
  go_wp2_with fail
  refine (HA.out w1).mono ?_
  rintro _ w2 ⟨rfl, hc2⟩
  have c2 := c1.trans (hc2.mono c1.size)
  clear hc2 c1 HA
  go_wp2_with fail
  refine (HB.out w2).mono ?_
  rintro _ w3 ⟨rfl, hc3⟩
  have c3 := c2.trans (hc3.mono c2.size)
  clear hc3 c2 HB
  go_wp2_with fail
  refine (HC.out w3).mono ?_
  rintro _ w4 ⟨rfl, hc4⟩
  have c4 := c3.trans (hc4.mono c3.size)
  clear hc4 c3 HC
  go_wp2_with fail
  refine (HD.out w4).mono ?_
  rintro _ w5 ⟨rfl, hc5⟩
  have c5 := c4.trans (hc5.mono c4.size)
  clear hc5 c4 HD
  go_wp2
  go_ret
  exact ⟨rfl, c5⟩

theorem ctrBegins_walk (k o s : List UInt8) (n : Int) (w : World) :
    Calls Try.prog 5 #[.string ⟨⟨k⟩⟩, .string ⟨⟨o⟩⟩, .string ⟨⟨s⟩⟩, .int .i64 n] w fun e w' => e = .returned (.bool true) ∧ Below w.heap.size w w' := by
  by_cases hs : s.length ≤ 3000
  · by_cases hn : n < 0
    · exact ctrBegins_b k o s n w hs hn
    · by_cases hm : (s.length : Int) < n
      · exact ctrBegins_c k o s n w hs (by omega) hm
      · by_cases hk : k.length = 16
        · by_cases ho : o.length = 12
          · obtain ⟨m, rfl⟩ := Int.eq_ofNat_of_zero_le (show 0 ≤ n by omega)
            exact ctrBegins_yes k o s m w hk ho hs (by omega)
          · exact ctrBegins_e k o s n w hs (by omega) (by omega) hk ho
        · exact ctrBegins_d k o s n w hs (by omega) (by omega) hk
  · exact ctrBegins_a k o s n w hs
end Go.Proofs.Ytjoaajjfmmiaaaa
