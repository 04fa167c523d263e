/- DeriveApart at any argument. -/
import Derived.Test.YtihgglplbanegaaDoorDeL1
import Derived.Test.YtihgglplbanegaaDoorDeW3
namespace Go.Proofs.YtihgglplbanegaaDoor
open Go.RowKit

theorem apart_beq (x y : List UInt8) {a b : Int} (ha : -9223372036854775808 ≤ a ∧ a ≤ 9223372036854775807) (hb : -9223372036854775808 ≤ b ∧ b ≤ 9223372036854775807) :
    (De.txt x a == De.txt y b) = ((a == b) && (x == y)) := by
  rw [Bool.eq_iff_iff, Bool.and_eq_true, beq_iff_eq, beq_iff_eq, beq_iff_eq]
  exact De.txt_iff x y ha hb

theorem deriveApart_walk (k : List UInt8) (a b : Int) (x y : List UInt8) (ha : -9223372036854775808 ≤ a ∧ a ≤ 9223372036854775807) (hb : -9223372036854775808 ≤ b ∧ b ≤ 9223372036854775807) (w : World) (HT : Tabs w) :
    Calls Tryd.prog 5 #[.string ⟨⟨k⟩⟩, .int .i64 a, .int .i64 b, .string ⟨⟨x⟩⟩, .string ⟨⟨y⟩⟩] w fun e w' => e = .returned (.bool true) ∧ Below w.heap.size w w' := by
  have HW : Hid WorksIs := Lib.hid fun w h => worksD_any w h
  by_cases h : 200 < k.length ∨ 200 < x.length ∨ 200 < y.length
  · exact deriveApart_no k x y a b w HT HW h
  · exact deriveApart_yes k x y _ _ a b w HT HW (by omega) (by omega) (by omega) _ rfl (Lib.hid (apart_beq x y ha hb))
      (Lib.hid (macIs k _ (by omega) (by rw [De.txt_length]; omega))) (Lib.hid (macIs k _ (by omega) (by rw [De.txt_length]; omega))) (Lib.hid (keyIs k x a (by omega) (by omega))) (Lib.hid (keyIs k y b (by omega) (by omega)))
end Go.Proofs.YtihgglplbanegaaDoor
