/- span: the law's works. -/
import Derived.Test.YtddjbkadhihohaaSpW7
import Derived.Laws.StructEq
namespace Go.Proofs.Ytddjbkadhihohaa
open Go.RowKit
namespace Sp

/-- Of, of a whole pair. -/
theorem Of_cx (a b : Int) (w : World) (ha : 0 ≤ a) (ha2 : a < 281474976710656) (hb : 0 ≤ b) (hb2 : b < 281474976710656) :
    Calls Try.prog 11 #[.complex .f64 (fl a) (fl b)] w fun e w' => e = .returned (if vld a b then sv a b else sv 0 0) ∧ Below w.heap.size w w' := by
  have hO := Of_any (2 * a) (2 * b) w (by omega) (by omega) (by omega) (by omega)
  have e1 : 2 * a / 2 = a := by omega
  have e2 : 2 * b / 2 = b := by omega
  have e3 : wh (2 * a) (2 * b) = vld a b := by simp [wh, e1, e2]
  rw [e1, e2, e3] at hO
  exact hO

set_option maxHeartbeats 2000000 in
set_option maxRecDepth 100000 in
theorem works_any (w : World) :
    Calls Try.prog 8 #[] w fun e w' => e = .returned (.bool true) ∧ Below w.heap.size w w' := by
  have HB := Lib.hid (Both_any 3 9 5 20)
  have HC := Lib.hid (Cut_any 5 9 2)
  have HK := Lib.hid (Check_any 5 9 8 0)
  have HN := Lib.hid (Near_any 3 5 2)
  have HV := Lib.hid (Valid_any 5 9)
  have HP := Lib.hid (Point_any 5 9)
  have HO := Lib.hid (fun W => Of_cx 5 9 W (by omega) (by omega) (by omega) (by omega))
  rw [show bth 3 9 5 20 = ((5, 9), 0) by decide] at HB
  rw [show ctt 5 9 2 = ((5, 7), 0) by decide] at HC
  rw [show chk 5 9 8 0 = 0 by decide] at HK
  rw [show nr 3 5 2 = true by decide] at HN
  rw [show vld 5 9 = true by decide] at HV HO
  rw [pt, if_pos (by decide)] at HP
  simp only [if_true] at HO
  unfold sv tv cx at *
  generalize fl 5 = x at *
  generalize fl 9 = y at *
  go_enter Try.func8, Try.ntmps8
  go_wp2_with fail
  refine (HB.out _).mono ?_
  rintro _ w1 ⟨rfl, hb1⟩
  clear HB
  unfold sv
  go_wp2_with fail
  have hg1 := World.alloc_heap_new w1 (.cells #[.int .i64 5, .int .i64 9] 23)
  have hs1 : (w1.alloc (.cells #[.int .i64 5, .int .i64 9] 23)).heap.size = w1.heap.size + 1 := by simp
  have hbb1 : Below w.heap.size w (w1.alloc (.cells #[.int .i64 5, .int .i64 9] 23)) := hb1.alloc hb1.size _
  have hz1 := hb1.size
  refine (HC.out _).mono ?_
  rintro _ w2 ⟨rfl, hb2⟩
  have hg2 := (hb2.block w1.heap.size (by omega)).trans hg1
  have hbb2 := hbb1.trans (hb2.mono (by omega))
  have hs2 := hb2.size
  generalize w1.heap.size = g at *
  generalize w1.alloc (.cells #[.int .i64 5, .int .i64 9] 23) = W1 at *
  clear hb1 hg1 hbb1 hb2 HC
  have HG := Lib.hid hg2
  have HBB := Lib.hid hbb2
  have HLT := Lib.hid (show g < w2.heap.size by omega)
  clear hg2 hbb2 hs1 hz1 hs2
  unfold sv
  go_wp2_with fail
  have hg3 := (heap_alloc_old' w2 (.cells #[.int .i64 5, .int .i64 7] 23) HLT.out).trans HG.out
  have hg4 := World.alloc_heap_new w2 (.cells #[.int .i64 5, .int .i64 7] 23)
  have hb3 : Below w.heap.size w (w2.alloc (.cells #[.int .i64 5, .int .i64 7] 23)) := HBB.out.alloc HBB.out.size _
  generalize w2.heap.size = h at *
  generalize w2.alloc (.cells #[.int .i64 5, .int .i64 7] 23) = W at *
  obtain ⟨c0, c1⟩ := cell2 hg3
  obtain ⟨c2, c3⟩ := cell2 hg4
  have j0 := cell_regrown c0
  have j1 := cell_regrown c1
  have j2 := cell_regrown c2
  have j3 := cell_regrown c3
  have kK := fun d1 os => Calls.regrown_of (HK.out (Go.Sort.grow (redrawn W d1) os))
  have kN := fun d1 os => Calls.regrown_of (HN.out (Go.Sort.grow (redrawn W d1) os))
  have kV := fun d1 os => Calls.regrown_of (HV.out (Go.Sort.grow (redrawn W d1) os))
  have kP := fun d1 os => Calls.regrown_of (HP.out (Go.Sort.grow (redrawn W d1) os))
  have kO := fun d1 os => Calls.regrown_of (HO.out (Go.Sort.grow (redrawn W d1) os))
  have HB3 := Lib.hid hb3
  clear HK HN HV HP HO HG HBB HLT hg3 hg4 c0 c1 c2 c3 hb3
  refine wp_region_quiet_below (by kernel_rfl) (by kernel_rfl) ?_
  repeat (quiet_step (first | with_reducible exact kK _ _ | with_reducible exact kN _ _ | with_reducible exact kV _ _ | with_reducible exact kP _ _ | with_reducible exact kO _ _))
  refine wpQuiet_nil ?_
  intro _ hw'
  obtain ⟨⟨dq, osq⟩, hw''⟩ := hw'
  subst hw''
  have HB4 : Hid (Below w.heap.size w (Go.Sort.grow (redrawn W dq) osq)) := HB3.out.trans ((below_regrown W dq osq).mono HB3.out.size)
  clear kK kN kV kP kO j0 j1 j2 j3
  go_wp2
  go_ret
  exact ⟨rfl, HB4.out⟩
end Sp
end Go.Proofs.Ytddjbkadhihohaa
