/- number: a number, and a blank. (Laid with NS=1.) -/
import Derived.Test.YtiidooponlbnmaaDoorKnPure
import Derived.Test.YtiidooponlbnmaaDoorTmW10
import Derived.Test.YtiidooponlbnmaaDoorTmW12
import Derived.Test.YtiidooponlbnmaaDoorTmW13
namespace Go.Proofs.YtiidooponlbnmaaDoor.Kn
open Go.RowKit
open Te Te.Tt

set_option maxHeartbeats 400000 in
set_option maxRecDepth 100000 in
theorem number_any (B : Nat) (i : Int) (hi : InR i) (v : Value) (l : List UInt8) (w : World) (h : Buf B w v l) (hl : l.length ≤ 999999999700) (htab : TabB B w) :
    Calls Tryd.prog 61 #[v, .int .i64 i] w fun e w' => ∃ v', e = .returned v' ∧ Buf B w' v' (l ++ (Lib.itoa i ++ [32])) ∧ Grw w v w' v' := by
  have HC := Lib.hid (appIntP_any B i hi v l w h (by omega) htab)
  have HI := Lib.hid (itoa_len i hi)
  clear h htab hi
  go_enter Tryd.func61, Tryd.ntmps61
  go_wp2_with fail
  refine HC.out.mono ?_
  rintro _ w2 ⟨v2, rfl, hB2, hG2⟩
  obtain ⟨v3, w3, hr3, hB3, hG3⟩ := run_app (hB2.bel ((Below.refl _ _).alloc (Nat.le_refl _) (.cells #[.int .u8 32] 5))) [32] ⟨w2.heap.size, 0, none⟩ 1 (cell_byte w2 32) (by have := HI.out; simp; omega)
  have HR3 := Lib.hid hr3
  have HB3 := Lib.hid hB3
  have HG3 := Lib.hid ((hG2.trans (Grw.alloc w2 v2 (.cells #[.int .u8 32] 5))).trans hG3)
  clear hB2 hG2 HC hr3 hB3 hG3
  go_wp2_with (at_builtin; refine wpList_append_run _ rfl (.tmp 7) (.tmp 8) 68 68 rfl _ _ rfl rfl HR3.out ?_)
  go_ret
  exact ⟨v3, rfl, by have := HB3.out; rwa [List.append_assoc] at this, HG3.out⟩
end Go.Proofs.YtiidooponlbnmaaDoor.Kn
