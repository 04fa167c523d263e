/- DeriveApart's walk. -/
import Derived.Test.YtihgglplbanegaaDoorDeL0
import Derived.Test.YtihgglplbanegaaDoorDeW2
namespace Go.Proofs.YtihgglplbanegaaDoor
open Go.RowKit

/-- What works answers. -/
def WorksIs : Prop := ∀ w, Tabs w → Calls Tryd.prog 6 #[] w fun e w' => e = .returned (.bool true) ∧ Below w.heap.size w w'

set_option maxRecDepth 100000 in
theorem deriveApart_no (k x y : List UInt8) (a b : Int) (w : World) (HT : Tabs w) (HW : Hid WorksIs) (h : 200 < k.length ∨ 200 < x.length ∨ 200 < y.length) :
    Calls Tryd.prog 5 #[.string ⟨⟨k⟩⟩, .int .i64 a, .int .i64 b, .string ⟨⟨x⟩⟩, .string ⟨⟨y⟩⟩] w fun e w' => e = .returned (.bool true) ∧ Below w.heap.size w w' := by
  by_cases h1 : 200 < k.length
  · clear h
    go_enter Tryd.func5, Tryd.ntmps5
    go_wp2_with fail
    refine (HW.out w HT).mono ?_
    rintro _ w1 ⟨rfl, b1⟩
    go_wp2
    all_goals go_ret
    all_goals exact ⟨rfl, b1⟩
  · have g1 : k.length ≤ 200 := by omega
    by_cases h2 : 200 < x.length
    · clear h h1
      go_enter Tryd.func5, Tryd.ntmps5
      go_wp2_with fail
      refine (HW.out w HT).mono ?_
      rintro _ w1 ⟨rfl, b1⟩
      go_wp2
      all_goals go_ret
      all_goals exact ⟨rfl, b1⟩
    · have g2 : x.length ≤ 200 := by omega
      have h3 : 200 < y.length := by omega
      clear h h1 h2
      go_enter Tryd.func5, Tryd.ntmps5
      go_wp2_with fail
      refine (HW.out w HT).mono ?_
      rintro _ w1 ⟨rfl, b1⟩
      go_wp2
      all_goals go_ret
      all_goals exact ⟨rfl, b1⟩

set_option maxRecDepth 100000 in
set_option maxHeartbeats 4000000 in
theorem deriveApart_yes (k x y m1 m2 : List UInt8) (a b : Int) (w : World) (HT : Tabs w) (HW : Hid WorksIs) (h1 : k.length ≤ 200) (h2 : x.length ≤ 200) (h3 : y.length ≤ 200) (p : Bool) (hp : (a == b) = p)
    (HQ : Hid ((De.txt x a == De.txt y b) = (p && (x == y))))
    (HM1 : Hid (MacIs k (De.txt x a) m1)) (HM2 : Hid (MacIs k (De.txt y b) m2)) (HK1 : Hid (KeyIs k a x m1)) (HK2 : Hid (KeyIs k b y m2)) :
    Calls Tryd.prog 5 #[.string ⟨⟨k⟩⟩, .int .i64 a, .int .i64 b, .string ⟨⟨x⟩⟩, .string ⟨⟨y⟩⟩] w fun e w' => e = .returned (.bool true) ∧ Below w.heap.size w w' := by
  have e1 : ¬ (200 : Int) < (k.length : Int) := by omega
  have e2 : ¬ (200 : Int) < (x.length : Int) := by omega
  have e3 : ¬ (200 : Int) < (y.length : Int) := by omega
  have hxy : ByteArray.mk ⟨x⟩ ++ ByteArray.mk ⟨y⟩ = ⟨⟨x ++ y⟩⟩ := str_app _ _
  have hxl : (x ++ y).length = x.length + y.length := List.length_append
  have HXL : Hid ((x ++ y).length = x.length + y.length) := hxl
  have hw0 : ¬ 9223372036854775807 < x.length + y.length := by omega
  clear hxl
  generalize x ++ y = z at *
  have HD1 := Lib.hid fun W => digitsD_any a W
  have HD2 := Lib.hid fun W => digitsD_any b W
  have hx0 : ByteArray.mk ⟨x⟩ ++ ByteArray.mk #[0] = ⟨⟨De.lab x⟩⟩ := str_app x [0]
  have hy0 : ByteArray.mk ⟨y⟩ ++ ByteArray.mk #[0] = ⟨⟨De.lab y⟩⟩ := str_app y [0]
  have hxa : ByteArray.mk ⟨De.lab x⟩ ++ ByteArray.mk ⟨De.num (De.un a)⟩ = ⟨⟨De.txt x a⟩⟩ := str_app _ _
  have hyb : ByteArray.mk ⟨De.lab y⟩ ++ ByteArray.mk ⟨De.num (De.un b)⟩ = ⟨⟨De.txt y b⟩⟩ := str_app _ _
  have hw1 : ¬ 9223372036854775807 < (De.lab x).length + (De.num (De.un a)).length := by rw [De.lab_length, De.num_length]; omega
  have hw2 : ¬ 9223372036854775807 < (De.lab y).length + (De.num (De.un b)).length := by rw [De.lab_length, De.num_length]; omega
  have hw3 : ¬ 9223372036854775807 < x.length + 1 := by omega
  have hw4 : ¬ 9223372036854775807 < y.length + 1 := by omega
  generalize De.txt x a = s at *
  generalize De.txt y b = t at *
  generalize De.lab x = lx at *
  generalize De.lab y = ly at *
  generalize De.num (De.un a) = na at *
  generalize De.num (De.un b) = nb at *
  go_enter Tryd.func5, Tryd.ntmps5
  go_wp2_with fail
  refine (HW.out w HT).mono ?_
  rintro _ w1 ⟨rfl, b1⟩
  go_wp2
  go_loopw [12] (fun i wr => ∃ n : Nat, n ≤ z.length ∧ i = .int .i64 (n : Nat) ∧ w1 = wr) (fun i _ => z.length - (intOf i).toNat)
  case atStart => exact ⟨0, by omega, rfl, rfl⟩
  case round =>
    obtain ⟨n, hn, rfl, rfl⟩ := hrel
    by_cases hlt : n < z.length
    · have hli : (n : Int) < (x.length : Int) + (y.length : Int) := by have := HXL.out; omega
      have hby := byte_at z n hlt
      by_cases hz : z[n] = 0
      · rw [hz] at hby
        go_wp2
        go_ret
        exact ⟨rfl, b1⟩
      · have hne : (((z[n].toNat : Nat) : Int) == 0) = false := by
          rw [beq_eq_false_iff_ne]
          intro h0
          apply hz
          apply UInt8.toNat_inj.1
          simpa using h0
        go_wp2
        go_roundw
        case rel => exact ⟨n + 1, by omega, by go_num, trivial⟩
        case measure => simp [intOf]; omega
    · have hli : ¬ (n : Int) < (x.length : Int) + (y.length : Int) := by have := HXL.out; omega
      clear hlt hxy
      go_wp2_with fail
      refine (HD1.out w1).mono ?_
      rintro _ w2 ⟨rfl, hb2⟩
      have b2 := b1.trans (hb2.mono b1.size)
      clear hb2 b1
      go_wp2_with fail
      refine (HD2.out w2).mono ?_
      rintro _ w3 ⟨rfl, hb3⟩
      have b3 := b2.trans (hb3.mono b2.size)
      clear hb3 b2 hx0 hy0 hxa hw0 hw1 hw3 hw4 hli
      have hq := HQ.out
      generalize hr : (x == y) = r at *
      clear HQ
      cases p
      all_goals simp only [Bool.true_and, Bool.false_and] at hq
      all_goals (
        go_wp2_with fail
        refine (HK1.out w3 (HT.below b3)).mono ?_
        rintro _ w4 ⟨rfl, hb4⟩
        have b4 := b3.trans (hb4.mono b3.size)
        clear hb4 b3
        go_wp2_with fail
        refine (HM1.out w4 (HT.below b4)).mono ?_
        rintro _ w5 ⟨rfl, hb5⟩
        have b5 := b4.trans (hb5.mono b4.size)
        clear hb5 b4
        go_wp2_with fail
        refine (HK2.out w5 (HT.below b5)).mono ?_
        rintro _ w6 ⟨rfl, hb6⟩
        have b6 := b5.trans (hb6.mono b5.size)
        clear hb6 b5
        go_wp2_with fail
        refine (HM2.out w6 (HT.below b6)).mono ?_
        rintro _ w7 ⟨rfl, hb7⟩
        have b7 := b6.trans (hb7.mono b6.size)
        clear hb7 b6
        go_wp2
        go_ret
        exact ⟨rfl, b7⟩)
end Go.Proofs.YtihgglplbanegaaDoor
