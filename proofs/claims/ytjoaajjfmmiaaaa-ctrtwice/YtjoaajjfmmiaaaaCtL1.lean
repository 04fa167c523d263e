/- CtrTwice's walk. -/
import Derived.Test.YtjoaajjfmmiaaaaCtW5
namespace Go.Proofs.Ytjoaajjfmmiaaaa
open Go.RowKit

set_option maxRecDepth 100000 in
theorem ctrTwice_yes (k o s : List UInt8) (w : World) (hk : k.length = 16) (ho : o.length = 12) (hs : s.length ≤ 3000) :
    Calls Try.prog 4 #[.string ⟨⟨k⟩⟩, .string ⟨⟨o⟩⟩, .string ⟨⟨s⟩⟩] w fun e w' => e = .returned (.bool true) ∧ Below w.heap.size w w' := by
  have HX := Lib.hid fun W => Cipher_any k o s W
  have HY : Hid (∀ W, Calls Try.prog 9 #[.string ⟨⟨k⟩⟩, .string ⟨⟨o⟩⟩, .string ⟨⟨Ct.cipA k o s⟩⟩] W fun e w' => e = .returned (.string ⟨⟨s⟩⟩) ∧ Below W.heap.size W w') := by
    intro W
    have := Cipher_any k o (Ct.cipA k o s) W
    rwa [Ct.cipA_twice hk ho (by omega)] at this
  have hl := Ct.cipA_full (s := s) hk ho (by omega)
  generalize Ct.cipA k o s = t at *
  obtain ⟨k1, k2, k3, k4⟩ := len_true hk
  obtain ⟨o1, o2, o3, o4⟩ := len_true ho
  simp only [Int.cast_ofNat_Int] at k1 k3 o1 o3
  have hsi : (s.length : Int) ≤ 3000 := by omega
  clear hk ho
  go_enter Try.func4, Try.ntmps4
  go_wp2_with fail
  refine (worksC_any w).mono ?_
  rintro _ w1 ⟨rfl, c1⟩
  go_wp2_with fail
  refine (HX.out w1).mono ?_
  rintro _ w2 ⟨rfl, hc2⟩
  have c2 := c1.trans (hc2.mono c1.size)
  clear hc2 c1 HX
  go_wp2_with fail
  refine (HY.out w2).mono ?_
  rintro _ w3 ⟨rfl, hc3⟩
  have c3 := c2.trans (hc3.mono c2.size)
  clear hc3 c2 HY
  go_wp2
  go_ret
  exact ⟨rfl, c3⟩

set_option maxRecDepth 100000 in
theorem ctrTwice_no (k o s : List UInt8) (w : World) (h : ¬ (k.length = 16 ∧ o.length = 12)) (hs : s.length ≤ 3000) :
    Calls Try.prog 4 #[.string ⟨⟨k⟩⟩, .string ⟨⟨o⟩⟩, .string ⟨⟨s⟩⟩] w fun e w' => e = .returned (.bool true) ∧ Below w.heap.size w w' := by
  have HX : Hid (∀ W, Calls Try.prog 9 #[.string ⟨⟨k⟩⟩, .string ⟨⟨o⟩⟩, .string ⟨⟨s⟩⟩] W fun e w' => e = .returned (.string ⟨⟨[]⟩⟩) ∧ Below W.heap.size W w') := by
    intro W
    have := Cipher_any k o s W
    rwa [Ct.cipA_no h] at this
  have hsi : (s.length : Int) ≤ 3000 := by omega
  by_cases hk : k.length = 16
  · have ho : o.length ≠ 12 := fun e => h ⟨hk, e⟩
    obtain ⟨k1, k2, k3, k4⟩ := len_true hk
    obtain ⟨o1, o2, o3, o4⟩ := len_false ho
    simp only [Int.cast_ofNat_Int] at k1 k3 o1 o3
    clear h hk ho
    go_enter Try.func4, Try.ntmps4
    go_wp2_with fail
    refine (worksC_any w).mono ?_
    rintro _ w1 ⟨rfl, c1⟩
    go_wp2_with fail
    refine (HX.out w1).mono ?_
    rintro _ w2 ⟨rfl, hc2⟩
    have c2 := c1.trans (hc2.mono c1.size)
    clear hc2 c1 HX
    go_wp2
    go_ret
    exact ⟨rfl, c2⟩
  · obtain ⟨k1, k2, k3, k4⟩ := len_false hk
    simp only [Int.cast_ofNat_Int] at k1 k3
    clear h hk
    go_enter Try.func4, Try.ntmps4
    go_wp2_with fail
    refine (worksC_any w).mono ?_
    rintro _ w1 ⟨rfl, c1⟩
    go_wp2_with fail
    refine (HX.out w1).mono ?_
    rintro _ w2 ⟨rfl, hc2⟩
    have c2 := c1.trans (hc2.mono c1.size)
    clear hc2 c1 HX
    go_wp2
    go_ret
    exact ⟨rfl, c2⟩

set_option maxRecDepth 100000 in
theorem ctrTwice_long (k o s : List UInt8) (w : World) (hs : ¬ s.length ≤ 3000) :
    Calls Try.prog 4 #[.string ⟨⟨k⟩⟩, .string ⟨⟨o⟩⟩, .string ⟨⟨s⟩⟩] w fun e w' => e = .returned (.bool true) ∧ Below w.heap.size w w' := by
  have hsi : (3000 : Int) < (s.length : Int) := by omega
  go_enter Try.func4, Try.ntmps4
  go_wp2_with fail
  refine (worksC_any w).mono ?_
  rintro _ w1 ⟨rfl, c1⟩
  go_wp2
  go_ret
  exact ⟨rfl, c1⟩

theorem ctrTwice_walk (k o s : List UInt8) (w : World) :
    Calls Try.prog 4 #[.string ⟨⟨k⟩⟩, .string ⟨⟨o⟩⟩, .string ⟨⟨s⟩⟩] w fun e w' => e = .returned (.bool true) ∧ Below w.heap.size w w' := by
  by_cases hs : s.length ≤ 3000
  · by_cases h : k.length = 16 ∧ o.length = 12
    · exact ctrTwice_yes k o s w h.1 h.2 hs
    · exact ctrTwice_no k o s w h hs
  · exact ctrTwice_long k o s w hs
end Go.Proofs.Ytjoaajjfmmiaaaa
