/- SealBack's walk. -/
import Derived.Test.YtdjehpbkkbahcaaDoorSlW1
namespace Go.Proofs.YtdjehpbkkbahcaaDoor
open Go.RowKit

/-- What works answers. -/
abbrev WorksS : Prop := ∀ w, Tabs w → Calls Tryd.prog 8 #[] w fun e w' => e = .returned (.bool true) ∧ Below w.heap.size w w'

set_option maxRecDepth 100000 in
theorem sealBack_a (b o x : List UInt8) (n : Int) (w : World) (HT : Tabs w) (HW : Hid WorksS) (h : 1000 < b.length) :
    Calls Tryd.prog 5 #[.string ⟨⟨b⟩⟩, .int .i64 n, .string ⟨⟨o⟩⟩, .string ⟨⟨x⟩⟩] w fun e w' => e = .returned (.bool true) ∧ Below w.heap.size w w' := by
  have h1 : (1000 : Int) < (b.length : Int) := by omega
  clear h
  go_enter Tryd.func5, Tryd.ntmps5
  go_wp2_with fail
  refine (HW.out w HT).mono ?_
  rintro _ w1 ⟨rfl, b1⟩
  go_wp2
  go_ret
  exact ⟨rfl, b1⟩
set_option maxRecDepth 100000 in
theorem sealBack_b (b o x : List UInt8) (n : Int) (w : World) (HT : Tabs w) (HW : Hid WorksS) (h : b.length ≤ 1000) (hx : 2000 < x.length) :
    Calls Tryd.prog 5 #[.string ⟨⟨b⟩⟩, .int .i64 n, .string ⟨⟨o⟩⟩, .string ⟨⟨x⟩⟩] w fun e w' => e = .returned (.bool true) ∧ Below w.heap.size w w' := by
  have h1 : ¬ (1000 : Int) < (b.length : Int) := by omega
  have h2 : (2000 : Int) < (x.length : Int) := by omega
  clear h hx
  go_enter Tryd.func5, Tryd.ntmps5
  go_wp2_with fail
  refine (HW.out w HT).mono ?_
  rintro _ w1 ⟨rfl, b1⟩
  go_wp2
  go_ret
  exact ⟨rfl, b1⟩
set_option maxRecDepth 100000 in
theorem sealBack_c (b o x : List UInt8) (n : Int) (w : World) (HT : Tabs w) (HW : Hid WorksS) (h : b.length ≤ 1000) (hx : x.length ≤ 2000) (ho : o.length ≠ 12) :
    Calls Tryd.prog 5 #[.string ⟨⟨b⟩⟩, .int .i64 n, .string ⟨⟨o⟩⟩, .string ⟨⟨x⟩⟩] w fun e w' => e = .returned (.bool true) ∧ Below w.heap.size w w' := by
  have h1 : ¬ (1000 : Int) < (b.length : Int) := by omega
  have h2 : ¬ (2000 : Int) < (x.length : Int) := by omega
  have HS := Lib.hid (slSeal_no b o x n ho)
  obtain ⟨o1, o2, o3, o4⟩ := len_false ho
  simp only [Int.cast_ofNat_Int] at o1 o3
  clear h hx ho
  go_enter Tryd.func5, Tryd.ntmps5
  go_wp2_with fail
  refine (HW.out w HT).mono ?_
  rintro _ w1 ⟨rfl, b1⟩
  go_wp2_with fail
  refine (HS.out w1 (HT.below b1)).mono ?_
  rintro _ w2 ⟨rfl, hb2⟩
  have b2 := b1.trans (hb2.mono b1.size)
  clear hb2 b1
  go_wp2
  go_ret
  exact ⟨rfl, b2⟩
set_option maxRecDepth 100000 in
set_option maxHeartbeats 1000000 in
theorem sealBack_d (b o x s : List UInt8) (n : Int) (w : World) (HT : Tabs w) (HW : Hid WorksS) (h : b.length ≤ 1000) (hx : x.length ≤ 2000) (ho : o.length = 12)
    (HS : Hid (SealIs b n o x s 0)) (HO : Hid (OpenIs b n s x 0)) (hs : s.length = x.length + 44) (hn : s.take 12 = o) :
    Calls Tryd.prog 5 #[.string ⟨⟨b⟩⟩, .int .i64 n, .string ⟨⟨o⟩⟩, .string ⟨⟨x⟩⟩] w fun e w' => e = .returned (.bool true) ∧ Below w.heap.size w w' := by
  have h1 : ¬ (1000 : Int) < (b.length : Int) := by omega
  have h2 : ¬ (2000 : Int) < (x.length : Int) := by omega
  obtain ⟨o1, o2, o3, o4⟩ := len_true ho
  simp only [Int.cast_ofNat_Int] at o1 o3
  have c1 : (ByteArray.mk ⟨s⟩).extract 0 12 = ⟨⟨o⟩⟩ := by rw [cut_str, List.drop_zero, ← hn]
  have g5 : (12 : Int) ≤ (s.length : Int) := by omega
  have g6 : 12 ≤ s.length := by omega
  obtain ⟨q, hq⟩ : ∃ q : Nat, q = s.length := ⟨_, rfl⟩
  have e0 : (x.length : Int) + 44 = (s.length : Int) := by omega
  have e1 : IntKind.i64.wrap (s.length : Int) = (s.length : Int) := by rw [IntKind.wrap_i64]; omega
  have e2 : ((s.length : Int) == (s.length : Int)) = true := by simp
  clear h hx ho hs hn hq
  go_enter Tryd.func5, Tryd.ntmps5
  go_wp2_with fail
  refine (HW.out w HT).mono ?_
  rintro _ w1 ⟨rfl, b1⟩
  go_wp2_with fail
  refine (HS.out w1 (HT.below b1)).mono ?_
  rintro _ w2 ⟨rfl, hb2⟩
  have b2 := b1.trans (hb2.mono b1.size)
  clear hb2 b1
  go_wp2_with fail
  refine (HO.out w2 (HT.below b2)).mono ?_
  rintro _ w3 ⟨rfl, hb3⟩
  have b3 := b2.trans (hb3.mono b2.size)
  clear hb3 b2
  go_wp2
  go_ret
  exact ⟨rfl, b3⟩
end Go.Proofs.YtdjehpbkkbahcaaDoor
