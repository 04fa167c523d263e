import Derived.Test.YtmjpjbnaahdcmaaL8
namespace Go.Proofs.Ytmjpjbnaahdcmaa
open Go.RowKit
open Wr

set_option maxHeartbeats 4000000 in
set_option maxRecDepth 100000 in
theorem wirePuts_walk (n : Bool) (t : Int) (s : List UInt8) (l : List It) (A : Option Addr) (ca : Nat) (n' : Bool) (t' : Int) (s' : List UInt8) (l' : List It) (A' : Option Addr) (ca' : Nat) (S T : Nat → Prop) (w : World)
    (hrep : Rep w S (.mk n t s l) (.agg #[.bool n, .int .i64 t, .string ⟨⟨s⟩⟩, .slice A l.length ca])) (hrep' : Rep w T (.mk n' t' s' l') (.agg #[.bool n', .int .i64 t', .string ⟨⟨s'⟩⟩, .slice A' l'.length ca'])) (hS : ∀ b, S b → b < w.heap.size) (hT : ∀ b, T b → b < w.heap.size)
    (hk : bk (.mk n t s l) ≤ 2000000) (hk' : bk (.mk n' t' s' l') ≤ 2000000) :
    Calls Try.prog 3 #[.agg #[.bool n, .int .i64 t, .string ⟨⟨s⟩⟩, .slice A l.length ca], .agg #[.bool n', .int .i64 t', .string ⟨⟨s'⟩⟩, .slice A' l'.length ca']] w fun e w' => e = .returned (.bool true) ∧ Below w.heap.size w w' := by
  have hX0 := Hold.new hrep hS
  have X0 := Lib.hid (hX0.alloc (.cells #[.bool n', .int .i64 t', .string ⟨⟨s'⟩⟩, .slice A' l'.length ca'] 24))
  have Y0 := Lib.hid (Hold.new (rep_alloc (S' := T) hrep' (.cells #[.bool n, .int .i64 t, .string ⟨⟨s⟩⟩, .slice A l.length ca] 24) (fun c hc => ⟨hT c hc, hc⟩)) (fun c hc => by have := hT c hc; simp; omega))
  have B0 : Hid (Below w.heap.size w ((w.alloc (.cells #[.bool n, .int .i64 t, .string ⟨⟨s⟩⟩, .slice A l.length ca] 24)).alloc (.cells #[.bool n', .int .i64 t', .string ⟨⟨s'⟩⟩, .slice A' l'.length ca'] 24))) := ((Below.refl _ _).alloc (Nat.le_refl _) _).alloc (by simp) _
  have hsz : (w.alloc (.cells #[.bool n, .int .i64 t, .string ⟨⟨s⟩⟩, .slice A l.length ca] 24)).heap.size = w.heap.size + 1 := by simp
  rw [hsz] at Y0
  clear hrep hrep' hS hT hX0 hsz
  go_enter Try.func3, Try.ntmps3
  go_wp2_with fail
  refine (works_any _).mono ?_
  rintro _ w1 ⟨rfl, hb1⟩
  have X1 := Lib.hid (X0.out.below hb1)
  have Y1 := Lib.hid (Y0.out.below hb1)
  have B1 := Lib.hid (B0.out.trans (hb1.mono B0.out.size))
  clear hb1
  obtain ⟨q0, q1, q2, q3⟩ := X1.out.cells
  go_wp2_with fail
  refine (large_any (.mk n t s l) S _ _ 2000 hk X1.out.rep X1.out.low).mono ?_
  rintro _ w2 ⟨rfl, hb2⟩
  have X2 := Lib.hid (X1.out.below hb2)
  have Y2 := Lib.hid (Y1.out.below hb2)
  have B2 := Lib.hid (B1.out.trans (hb2.mono B1.out.size))
  clear hb2 q0 q1 q2 q3
  obtain ⟨p0, p1, p2, p3⟩ := Y2.out.cells
  go_wp2_with fail
  refine (large_any (.mk n' t' s' l') T _ _ 2000 hk' Y2.out.rep Y2.out.low).mono ?_
  rintro _ w3 ⟨rfl, hb3⟩
  have X3 := Lib.hid (X2.out.below hb3)
  have Y3 := Lib.hid (Y2.out.below hb3)
  have B3 := Lib.hid (B2.out.trans (hb3.mono B2.out.size))
  clear hb3 p0 p1 p2 p3
  by_cases hlarge : (2000 : Int) < (bk (.mk n t s l) : Int)
  · rw [decide_eq_true hlarge]
    clear hlarge
    go_wp2
    go_ret
    exact ⟨rfl, B3.out⟩
  rw [decide_eq_false hlarge]
  have HL := Lib.hid hlarge
  clear hlarge
  by_cases hlarge : (2000 : Int) < (bk (.mk n' t' s' l') : Int)
  · rw [decide_eq_true hlarge]
    clear hlarge
    go_wp2
    go_ret
    exact ⟨rfl, B3.out⟩
  rw [decide_eq_false hlarge]
  have HL' := Lib.hid hlarge
  clear hlarge
  have hput : ∀ (W : World), Hold W S w.heap.size n t s l A ca → Calls Try.prog 11 #[.agg #[.bool n, .int .i64 t, .string ⟨⟨s⟩⟩, .slice A l.length ca]] W fun e w' => (e = if (sz (.mk n t s l) 0).isSome then .returned (.tuple #[.string ⟨⟨wr (.mk n t s l)⟩⟩, .int .i64 0]) else .returned (.tuple #[.string ⟨⟨[]⟩⟩, .int .i64 1])) ∧ Below W.heap.size W w' := by
    intro W hH
    cases hz : sz (.mk n t s l) 0 with
    | none => exact put_err (.mk n t s l) S _ W hk hH.rep hH.low hz
    | some m => exact put_ok (.mk n t s l) S _ W m hk hH.rep hH.low hz
  have HPUT := Lib.hid hput
  clear hput
  obtain ⟨out, code, hoc⟩ : ∃ (out : List UInt8) (code : Int), (if (sz (.mk n t s l) 0).isSome then Ending.returned (.tuple #[.string ⟨⟨wr (.mk n t s l)⟩⟩, .int .i64 0]) else .returned (.tuple #[.string ⟨⟨[]⟩⟩, .int .i64 1])) = .returned (.tuple #[.string ⟨⟨out⟩⟩, .int .i64 code]) := by
    split
    · exact ⟨_, _, rfl⟩
    · exact ⟨_, _, rfl⟩
  have HOC := Lib.hid hoc
  clear hoc
  obtain ⟨q0, q1, q2, q3⟩ := X3.out.cells
  go_wp2_with fail
  refine (HPUT.out _ X3.out).mono ?_
  rintro e w4 ⟨he, hb4⟩
  rw [HOC.out] at he
  subst he
  have X4 := Lib.hid (X3.out.below hb4)
  have Y4 := Lib.hid (Y3.out.below hb4)
  have B4 := Lib.hid (B3.out.trans (hb4.mono B3.out.size))
  clear hb4 q0 q1 q2 q3
  obtain ⟨q0, q1, q2, q3⟩ := X4.out.cells
  go_wp2_with fail
  refine (rput_any (.mk n t s l) S _ _ (by have := HL.out; omega) X4.out.rep X4.out.low).mono ?_
  rintro e w5 ⟨he, hb5⟩
  rw [HOC.out] at he
  subst he
  have X5 := Lib.hid (X4.out.below hb5)
  have Y5 := Lib.hid (Y4.out.below hb5)
  have B5 := Lib.hid (B4.out.trans (hb5.mono B4.out.size))
  clear hb5 q0 q1 q2 q3
  obtain ⟨q0, q1, q2, q3⟩ := X5.out.cells
  obtain ⟨p0, p1, p2, p3⟩ := Y5.out.cells
  go_wp2_with fail
  refine (rsame_any (.mk n t s l) (.mk n' t' s' l') S T _ _ _ (by omega) X5.out.rep Y5.out.rep X5.out.low Y5.out.low).mono ?_
  rintro _ w6 ⟨rfl, hb6⟩
  have X6 := Lib.hid (X5.out.below hb6)
  have Y6 := Lib.hid (Y5.out.below hb6)
  have B6 := Lib.hid (B5.out.trans (hb6.mono B5.out.size))
  clear hb6 q0 q1 q2 q3 p0 p1 p2 p3
  generalize hsame : eqB (.mk n t s l) (.mk n' t' s' l') = same
  have HSAME := Lib.hid hsame
  clear hsame
  obtain ⟨q0, q1, q2, q3⟩ := X6.out.cells
  go_wp2_with fail
  refine (rvalid_any (.mk n t s l) S _ _ (by have := HL.out; omega) X6.out.rep X6.out.low).mono ?_
  rintro _ w7 ⟨rfl, hb7⟩
  have X7 := Lib.hid (X6.out.below hb7)
  have Y7 := Lib.hid (Y6.out.below hb7)
  have B7 := Lib.hid (B6.out.trans (hb7.mono B6.out.size))
  clear hb7 q0 q1 q2 q3
  generalize hval : (sz (.mk n t s l) 0).isSome = val
  have HVAL := Lib.hid hval
  clear hval
  obtain ⟨q0, q1, q2, q3⟩ := X7.out.cells
  obtain ⟨p0, p1, p2, p3⟩ := Y7.out.cells
  go_wp2_with fail
  refine (Same_any (.mk n t s l) (.mk n' t' s' l') S T _ _ _ (by have := HL.out; omega) X7.out.rep Y7.out.rep X7.out.low Y7.out.low).mono ?_
  rintro _ w8 ⟨rfl, hb8⟩
  rw [HSAME.out]
  have X8 := Lib.hid (X7.out.below hb8)
  have B8 := Lib.hid (B7.out.trans (hb8.mono B7.out.size))
  clear hb8 q0 q1 q2 q3 p0 p1 p2 p3
  obtain ⟨q0, q1, q2, q3⟩ := X8.out.cells
  go_wp2_with fail
  refine (Same_any (.mk n t s l) (.mk n t s l) S S _ _ _ (by have := HL.out; omega) X8.out.rep X8.out.rep X8.out.low X8.out.low).mono ?_
  rintro _ w9 ⟨rfl, hb9⟩
  rw [eqB_true.2 rfl]
  have X9 := Lib.hid (X8.out.below hb9)
  have B9 := Lib.hid (B8.out.trans (hb9.mono B8.out.size))
  clear hb9 q0 q1 q2 q3
  obtain ⟨q0, q1, q2, q3⟩ := X9.out.cells
  go_wp2_with fail
  refine (valid_any (.mk n t s l) S _ _ hk X9.out.rep X9.out.low).mono ?_
  rintro _ w10 ⟨rfl, hb10⟩
  rw [HVAL.out]
  have B10 := Lib.hid (B9.out.trans (hb10.mono B9.out.size))
  clear hb10
  go_wp2
  go_ret
  exact ⟨rfl, B10.out⟩
end Go.Proofs.Ytmjpjbnaahdcmaa
