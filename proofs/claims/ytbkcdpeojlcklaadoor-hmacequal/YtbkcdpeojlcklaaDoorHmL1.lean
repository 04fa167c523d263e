/- HmacEqual's walk. -/
import Derived.Test.YtbkcdpeojlcklaaDoorHmW5
namespace Go.Proofs.YtbkcdpeojlcklaaDoor
open Go.RowKit

theorem eq_comm_dec (a b : List UInt8) : decide (b = a) = decide (a = b) := by
  by_cases h : a = b
  · subst h; rfl
  · rw [decide_eq_false h, decide_eq_false (fun e => h e.symm)]

set_option maxRecDepth 100000 in
set_option maxHeartbeats 2000000 in
theorem hmacEqual_walk (a b : List UInt8) (ha : a.length ≤ 9223372036854775807) (hb : b.length ≤ 9223372036854775807) (w : World) (HT : Tabs w) :
    Calls Tryd.prog 4 #[.string ⟨⟨a⟩⟩, .string ⟨⟨b⟩⟩] w fun e w' => e = .returned (.bool true) ∧ Below w.heap.size w w' := by
  have H1 := Lib.hid fun W => Equal_any a b W ha
  have H2 := Lib.hid fun W => Equal_any b a W hb
  have H3 := Lib.hid fun W => Equal_any a a W ha
  rw [decide_eq_true rfl] at H3
  rw [eq_comm_dec] at H2
  have hq : (a == b) = decide (a = b) := by rw [Bool.eq_iff_iff, beq_iff_eq, decide_eq_true_iff]
  generalize decide (a = b) = q at *
  go_enter Tryd.func4, Tryd.ntmps4
  go_wp2_with fail
  refine (works_any w HT).mono ?_
  rintro _ w1 ⟨rfl, b1⟩
  go_wp2_with fail
  refine (H1.out w1).mono ?_
  rintro _ w2 ⟨rfl, hb2⟩
  have b2 := b1.trans (hb2.mono b1.size)
  clear hb2 b1 H1
  go_wp2_with fail
  refine (H2.out w2).mono ?_
  rintro _ w3 ⟨rfl, hb3⟩
  have b3 := b2.trans (hb3.mono b2.size)
  clear hb3 b2 H2
  go_wp2_with fail
  refine (H3.out w3).mono ?_
  rintro _ w4 ⟨rfl, hb4⟩
  have b4 := b3.trans (hb4.mono b3.size)
  clear hb4 b3 H3
  go_wp2
  go_ret
  exact ⟨rfl, b4⟩
end Go.Proofs.YtbkcdpeojlcklaaDoor
