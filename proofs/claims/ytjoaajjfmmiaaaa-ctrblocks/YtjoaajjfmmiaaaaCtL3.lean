/- CtrBlocks' walk. -/
import Derived.Test.YtjoaajjfmmiaaaaCtW5
import Derived.Lib.QuietBelow
namespace Go.Proofs.Ytjoaajjfmmiaaaa
open Go.RowKit

theorem num_small (n : Nat) (h : n ≤ 200) : Ct.num n = [0, 0, 0, UInt8.ofNat n] := by
  rw [Ct.num, show n / 16777216 = 0 by omega, show n / 65536 = 0 by omega, show n / 256 = 0 by omega]
  rfl

set_option maxRecDepth 100000 in
theorem ctrBlocks_a (k o : List UInt8) (n : Int) (w : World) (hk : k.length ≠ 16) :
    Calls Try.prog 6 #[.string ⟨⟨k⟩⟩, .string ⟨⟨o⟩⟩, .int .i64 n] w fun e w' => e = .returned (.bool true) ∧ Below w.heap.size w w' := by
  obtain ⟨k1, k2, k3, k4⟩ := len_false hk
  simp only [Int.cast_ofNat_Int] at k1 k3
  clear hk
  go_enter Try.func6, Try.ntmps6
  go_wp2_with fail
  refine (worksC_any w).mono ?_
  rintro _ w1 ⟨rfl, c1⟩
  go_wp2
  go_ret
  exact ⟨rfl, c1⟩
set_option maxRecDepth 100000 in
theorem ctrBlocks_b (k o : List UInt8) (n : Int) (w : World) (hk : k.length = 16) (ho : o.length ≠ 12) :
    Calls Try.prog 6 #[.string ⟨⟨k⟩⟩, .string ⟨⟨o⟩⟩, .int .i64 n] w fun e w' => e = .returned (.bool true) ∧ Below w.heap.size w w' := by
  obtain ⟨k1, k2, k3, k4⟩ := len_true hk
  obtain ⟨o1, o2, o3, o4⟩ := len_false ho
  simp only [Int.cast_ofNat_Int] at k1 k3 o1 o3
  clear hk ho
  go_enter Try.func6, Try.ntmps6
  go_wp2_with fail
  refine (worksC_any w).mono ?_
  rintro _ w1 ⟨rfl, c1⟩
  go_wp2
  go_ret
  exact ⟨rfl, c1⟩
set_option maxRecDepth 100000 in
theorem ctrBlocks_c (k o : List UInt8) (n : Int) (w : World) (hk : k.length = 16) (ho : o.length = 12) (hn : n < 0) :
    Calls Try.prog 6 #[.string ⟨⟨k⟩⟩, .string ⟨⟨o⟩⟩, .int .i64 n] w fun e w' => e = .returned (.bool true) ∧ Below w.heap.size w w' := by
  obtain ⟨k1, k2, k3, k4⟩ := len_true hk
  obtain ⟨o1, o2, o3, o4⟩ := len_true ho
  simp only [Int.cast_ofNat_Int] at k1 k3 o1 o3
  clear hk ho
  go_enter Try.func6, Try.ntmps6
  go_wp2_with fail
  refine (worksC_any w).mono ?_
  rintro _ w1 ⟨rfl, c1⟩
  go_wp2
  go_ret
  exact ⟨rfl, c1⟩
set_option maxRecDepth 100000 in
theorem ctrBlocks_d (k o : List UInt8) (n : Int) (w : World) (hk : k.length = 16) (ho : o.length = 12) (hn : 0 ≤ n) (hm : 200 < n) :
    Calls Try.prog 6 #[.string ⟨⟨k⟩⟩, .string ⟨⟨o⟩⟩, .int .i64 n] w fun e w' => e = .returned (.bool true) ∧ Below w.heap.size w w' := by
  obtain ⟨k1, k2, k3, k4⟩ := len_true hk
  obtain ⟨o1, o2, o3, o4⟩ := len_true ho
  simp only [Int.cast_ofNat_Int] at k1 k3 o1 o3
  clear hk ho
  go_enter Try.func6, Try.ntmps6
  go_wp2_with fail
  refine (worksC_any w).mono ?_
  rintro _ w1 ⟨rfl, c1⟩
  go_wp2
  go_ret
  exact ⟨rfl, c1⟩

set_option maxRecDepth 100000 in
set_option maxHeartbeats 1000000 in
theorem ctrBlocks_yes (k o : List UInt8) (n : Nat) (w : World) (hk : k.length = 16) (ho : o.length = 12) (hn : n ≤ 200) :
    Calls Try.prog 6 #[.string ⟨⟨k⟩⟩, .string ⟨⟨o⟩⟩, .int .i64 (n : Nat)] w fun e w' => e = .returned (.bool true) ∧ Below w.heap.size w w' := by
  obtain ⟨c, rfl⟩ : ∃ c : UInt8, n = c.toNat := ⟨UInt8.ofNat n, by rw [UInt8.toNat_ofNat']; omega⟩
  have hnum := num_small c.toNat hn
  rw [UInt8.ofNat_toNat] at hnum
  have HB := Lib.hid fun W => Encrypt_blk k o c.toNat W hk ho
  rw [hnum] at HB
  have hsb0 := Ct.str_block k o c.toNat
  generalize Ct.blk k o c.toNat = b at *
  clear hnum
  have hcv : ∀ W : World, (convert 23 9 (.slice (some ⟨W.heap.size, 0, none⟩) 4 4)).run Try.prog (W.alloc (.cells #[.int .u8 0, .int .u8 0, .int .u8 0, .int .u8 (c.toNat : Nat)] 5)) = .ok (.string ⟨⟨[0, 0, 0, c]⟩⟩) (W.alloc (.cells #[.int .u8 0, .int .u8 0, .int .u8 0, .int .u8 (c.toNat : Nat)] 5)) := fun W => conv_four W 0 0 0 c
  have hap : ByteArray.mk ⟨o⟩ ++ ByteArray.mk ⟨[0, 0, 0, c]⟩ = ⟨⟨o ++ [0, 0, 0, c]⟩⟩ := str_app _ _
  generalize c.toNat = n at *
  obtain ⟨q, hq⟩ : ∃ q : Nat, q = 16 * n := ⟨_, rfl⟩
  obtain ⟨m, hm⟩ : ∃ m : Nat, m = q + 16 := ⟨_, rfl⟩
  have e0 : 16 * (n : Int) = (q : Int) := by omega
  have e2 : (q : Int) + 16 = (m : Int) := by omega
  have HA := Lib.hid fun W => Stream_yes k o m W hk ho (by omega)
  have hsl := Ct.str_length k o m
  have hsb : (Ct.str k o m).drop q = b := by rw [hm, hq]; exact hsb0
  clear hsb0
  generalize Ct.str k o m = s at *
  have cS : (ByteArray.mk ⟨s⟩).extract q m = ⟨⟨b⟩⟩ := by rw [cut_str, hsb, List.take_of_length_le (by rw [← hsb, List.length_drop, hsl]; exact Nat.le_refl _)]
  obtain ⟨k1, k2, k3, k4⟩ := len_true hk
  obtain ⟨o1, o2, o3, o4⟩ := len_true ho
  simp only [Int.cast_ofNat_Int] at k1 k3 o1 o3
  have hni : (n : Int) ≤ 200 := by omega
  have hn0 : ¬ (n : Int) < 0 := by omega
  have hqm : (q : Int) ≤ (m : Int) := by omega
  have f1 : IntKind.i64.wrap (q : Int) = (q : Int) := by rw [IntKind.wrap_i64]; omega
  have f2 : IntKind.i64.wrap (m : Int) = (m : Int) := by rw [IntKind.wrap_i64]; omega
  have f3 : ((m : Int) == (m : Int)) = true := by simp
  have hol : o.length + 4 ≤ 9223372036854775807 := by omega
  have HQ := Lib.hid hq
  have HM := Lib.hid hm
  have HSB := Lib.hid hsb
  have HK := Lib.hid hk
  clear hq hm hsb hk
  go_enter Try.func6, Try.ntmps6
  go_wp2_with fail
  refine (worksC_any w).mono ?_
  rintro _ w1 ⟨rfl, c1⟩
  go_wp2_with fail
  refine (HA.out w1).mono ?_
  rintro _ w2 ⟨rfl, hc2⟩
  have c2 := c1.trans (hc2.mono c1.size)
  clear hc2 c1 HA
  go_wp2_with fail
  generalize hW : w2.alloc _ = W at *
  have cW : Below w.heap.size w W := by rw [← hW]; exact c2.alloc c2.size _
  clear hW c2
  have cE : ∀ d os, Calls Try.prog 13 #[.string ⟨⟨k⟩⟩, .string ⟨⟨o ++ [0, 0, 0, c]⟩⟩] (Go.Sort.grow (redrawn W d) os) fun e w'' => e = .returned (.string ⟨⟨b⟩⟩) ∧ ∃ p : Regrown, w'' = Go.Sort.grow (redrawn W p.d) p.os := fun d os => Calls.regrown_of (HB.out _)
  clear HB hcv
  refine wp_region_quiet_below (by kernel_rfl) (by kernel_rfl) ?_
  repeat (quiet_step (exact cE _ _))
  refine wpQuiet_nil ?_
  intro _ hw'
  obtain ⟨⟨dq, osq⟩, hw''⟩ := hw'
  subst hw''
  have cF : Below w.heap.size w (Go.Sort.grow (redrawn W dq) osq) := cW.trans ((below_regrown W dq osq).mono cW.size)
  clear cE cW
  go_wp2
  go_ret
  exact ⟨rfl, cF⟩

theorem ctrBlocks_walk (k o : List UInt8) (n : Int) (w : World) :
    Calls Try.prog 6 #[.string ⟨⟨k⟩⟩, .string ⟨⟨o⟩⟩, .int .i64 n] w fun e w' => e = .returned (.bool true) ∧ Below w.heap.size w w' := by
  by_cases hk : k.length = 16
  · by_cases ho : o.length = 12
    · by_cases hn : n < 0
      · exact ctrBlocks_c k o n w hk ho hn
      · by_cases hm : 200 < n
        · exact ctrBlocks_d k o n w hk ho (by omega) hm
        · obtain ⟨m, rfl⟩ := Int.eq_ofNat_of_zero_le (show 0 ≤ n by omega)
          exact ctrBlocks_yes k o m w hk ho (by omega)
    · exact ctrBlocks_b k o n w hk ho
  · exact ctrBlocks_a k o n w hk
end Go.Proofs.Ytjoaajjfmmiaaaa
