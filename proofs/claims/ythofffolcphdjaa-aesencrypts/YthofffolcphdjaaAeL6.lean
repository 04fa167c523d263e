/- AesEncrypts' walk. -/
import Derived.Test.YthofffolcphdjaaAeV5
import Derived.Test.YthofffolcphdjaaAeL1
namespace Go.Proofs.Ythofffolcphdjaa
open Go.RowKit

theorem refEncrypt_any (k b : List UInt8) (gt cap : Nat) (w : World) (ht : TabS w gt) :
    Calls Try.prog 16 #[.slice (some ⟨gt, 0, none⟩) 256 cap, .string ⟨⟨k⟩⟩, .string ⟨⟨b⟩⟩] w fun e w' => e = .returned (.string ⟨⟨encA k b⟩⟩) ∧ Below w.heap.size w w' := by
  by_cases h : k.length = 16 ∧ b.length = 16
  · rw [encA, if_pos h]
    exact refEncrypt_yes k b gt cap w h.1 h.2 ht
  · rw [encA, if_neg h]
    exact (refEncrypt_no k b _ w h).mono fun _ _ ⟨he, hw⟩ => ⟨he, hw ▸ Below.refl _ _⟩
theorem refExpand_any (k : List UInt8) (gt cap : Nat) (w : World) (ht : TabS w gt) :
    Calls Try.prog 18 #[.slice (some ⟨gt, 0, none⟩) 256 cap, .string ⟨⟨k⟩⟩] w fun e w' => e = .returned (.string ⟨⟨exA k⟩⟩) ∧ Below w.heap.size w w' := by
  by_cases h : k.length = 16
  · rw [exA, if_pos h]
    exact refExpand_yes k gt cap w h ht
  · rw [exA, if_neg h]
    exact (refExpand_no k _ w h).mono fun _ _ ⟨he, hw⟩ => ⟨he, hw ▸ Below.refl _ _⟩

set_option maxRecDepth 100000 in
theorem aesEncrypts_walk (k b : List UInt8) (w : World) :
    Calls Try.prog 5 #[.string ⟨⟨k⟩⟩, .string ⟨⟨b⟩⟩] w fun e w' => e = .returned (.bool true) ∧ Below w.heap.size w w' := by
  have E1 := Lib.hid fun W => Encrypt_any k b W
  have E2 := Lib.hid fun g cap W ht => refEncrypt_any k b g cap W ht
  have X1 := Lib.hid fun W => Expand_any k W
  have X2 := Lib.hid fun g cap W ht => refExpand_any k g cap W ht
  generalize encA k b = c at *
  generalize exA k = x at *
  go_enter Try.func5, Try.ntmps5
  go_wp2_with fail
  refine (worksA_any w).mono ?_
  rintro _ w1 ⟨rfl, c1⟩
  go_wp2_with fail
  refine (Table_any w1).mono ?_
  rintro _ w2 ⟨⟨v, rfl, HO⟩, hc2⟩
  obtain ⟨g, cap, rfl, hg, htab⟩ := TabS.of HO
  have c2 := c1.trans (hc2.mono c1.size)
  have HT2 := Lib.hid htab
  clear hc2 c1 HO htab hg
  go_wp2_with fail
  refine (E1.out w2).mono ?_
  rintro _ w3 ⟨rfl, hc3⟩
  have c3 := c2.trans (hc3.mono c2.size)
  have HT3 := Lib.hid (HT2.out.below HT2.out.1 hc3 hc3.size)
  clear hc3 c2 E1 HT2
  go_wp2_with fail
  refine (E2.out g cap w3 HT3.out).mono ?_
  rintro _ w4 ⟨rfl, hc4⟩
  have c4 := c3.trans (hc4.mono c3.size)
  have HT4 := Lib.hid (HT3.out.below HT3.out.1 hc4 hc4.size)
  clear hc4 c3 E2 HT3
  go_wp2_with fail
  refine (X1.out w4).mono ?_
  rintro _ w5 ⟨rfl, hc5⟩
  have c5 := c4.trans (hc5.mono c4.size)
  have HT5 := Lib.hid (HT4.out.below HT4.out.1 hc5 hc5.size)
  clear hc5 c4 X1 HT4
  go_wp2_with fail
  refine (X2.out g cap w5 HT5.out).mono ?_
  rintro _ w6 ⟨rfl, hc6⟩
  have c6 := c5.trans (hc6.mono c5.size)
  clear hc6 c5 X2 HT5
  go_wp2
  go_ret
  exact ⟨rfl, c6⟩
end Go.Proofs.Ythofffolcphdjaa
