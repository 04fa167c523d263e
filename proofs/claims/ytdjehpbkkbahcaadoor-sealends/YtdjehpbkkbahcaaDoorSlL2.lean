/- SealEnds' walk. -/
import Derived.Test.YtdjehpbkkbahcaaDoorSlL1
namespace Go.Proofs.YtdjehpbkkbahcaaDoor
open Go.RowKit

set_option maxRecDepth 100000 in
theorem sealEnds_no (b o x t : List UInt8) (n : Int) (w : World) (HT : Tabs w) (HW : Hid WorksS) (h : 1000 < b.length ∨ 2000 < x.length ∨ t.length ≠ 32 ∨ o.length ≠ 12) :
    Calls Tryd.prog 6 #[.string ⟨⟨b⟩⟩, .int .i64 n, .string ⟨⟨o⟩⟩, .string ⟨⟨x⟩⟩, .string ⟨⟨t⟩⟩] w fun e w' => e = .returned (.bool true) ∧ Below w.heap.size w w' := by
  by_cases h1 : 1000 < b.length
  · have k1 : (1000 : Int) < (b.length : Int) := by omega
    clear h h1
    go_enter Tryd.func6, Tryd.ntmps6
    go_wp2_with fail
    refine (HW.out w HT).mono ?_
    rintro _ w1 ⟨rfl, b1⟩
    go_wp2
    go_ret
    exact ⟨rfl, b1⟩
  · have k1 : ¬ (1000 : Int) < (b.length : Int) := by omega
    by_cases h2 : 2000 < x.length
    · have k2 : (2000 : Int) < (x.length : Int) := by omega
      clear h h1 h2
      go_enter Tryd.func6, Tryd.ntmps6
      go_wp2_with fail
      refine (HW.out w HT).mono ?_
      rintro _ w1 ⟨rfl, b1⟩
      go_wp2
      go_ret
      exact ⟨rfl, b1⟩
    · have k2 : ¬ (2000 : Int) < (x.length : Int) := by omega
      by_cases h3 : t.length = 32
      · obtain ⟨t1, t2, t3, t4⟩ := len_true h3
        have h4 : o.length ≠ 12 := by omega
        obtain ⟨o1, o2, o3, o4⟩ := len_false h4
        simp only [Int.cast_ofNat_Int] at t1 t3 o1 o3
        clear h h1 h2 h3 h4
        go_enter Tryd.func6, Tryd.ntmps6
        go_wp2_with fail
        refine (HW.out w HT).mono ?_
        rintro _ w1 ⟨rfl, b1⟩
        go_wp2
        go_ret
        exact ⟨rfl, b1⟩
      · obtain ⟨t1, t2, t3, t4⟩ := len_false h3
        simp only [Int.cast_ofNat_Int] at t1 t3
        clear h h1 h2 h3
        go_enter Tryd.func6, Tryd.ntmps6
        go_wp2_with fail
        refine (HW.out w HT).mono ?_
        rintro _ w1 ⟨rfl, b1⟩
        go_wp2
        go_ret
        exact ⟨rfl, b1⟩

set_option maxRecDepth 100000 in
set_option maxHeartbeats 1000000 in
theorem sealEnds_yes (b o x t y k : List UInt8) (h m : List UInt8) (n q : Int) (w : World) (HT : Tabs w) (HW : Hid WorksS) (hb : b.length ≤ 1000) (hx : x.length ≤ 2000) (ht : t.length = 32) (ho : o.length = 12)
    (hh : h.length = x.length + 12) (hm : m.length = 32) (HS : Hid (SealIs b n o x (h ++ m) 0)) (HD : Hid (DSumIs b n k)) (HM : Hid (MacIs k h m)) (HO : Hid (OpenIs b n (h ++ t) y q))
    (hy : if t = m then y = x ∧ q = 0 else y = [] ∧ q = 20) :
    Calls Tryd.prog 6 #[.string ⟨⟨b⟩⟩, .int .i64 n, .string ⟨⟨o⟩⟩, .string ⟨⟨x⟩⟩, .string ⟨⟨t⟩⟩] w fun e w' => e = .returned (.bool true) ∧ Below w.heap.size w w' := by
  have k1 : ¬ (1000 : Int) < (b.length : Int) := by omega
  have k2 : ¬ (2000 : Int) < (x.length : Int) := by omega
  obtain ⟨t1, t2, t3, t4⟩ := len_true ht
  obtain ⟨o1, o2, o3, o4⟩ := len_true ho
  simp only [Int.cast_ofNat_Int] at t1 t3 o1 o3
  have hsl : (h ++ m).length = x.length + 44 := by rw [List.length_append, hh, hm]
  obtain ⟨e, he⟩ : ∃ e : Nat, e = h.length := ⟨_, rfl⟩
  have c1 : (ByteArray.mk ⟨h ++ m⟩).extract 0 e = ⟨⟨h⟩⟩ := by rw [cut_str, List.drop_zero, Nat.sub_zero, he, List.take_left]
  have c2 : (ByteArray.mk ⟨h ++ m⟩).extract e (h ++ m).length = ⟨⟨m⟩⟩ := by rw [cut_str, he, List.drop_left, List.take_of_length_le (by rw [List.length_append]; omega)]
  have hap : ByteArray.mk ⟨h⟩ ++ ByteArray.mk ⟨t⟩ = ⟨⟨h ++ t⟩⟩ := str_app _ _
  have hw1 : ¬ 9223372036854775807 < h.length + t.length := by omega
  have e0 : ((h ++ m).length : Int) - 32 = (e : Int) := by omega
  have f1 : IntKind.i64.wrap (e : Int) = (e : Int) := by rw [IntKind.wrap_i64]; omega
  have g0 : ¬ ((h ++ m).length : Int) < 44 := by omega
  have g1 : (e : Int) ≤ ((h ++ m).length : Int) := by omega
  have g2 : ¬ (e : Int) < 0 := by omega
  have g3 : e ≤ (h ++ m).length := by omega
  generalize h ++ m = s at *
  generalize h ++ t = u at *
  clear hh hm ht ho hb hx hsl he
  by_cases htm : t = m
  · rw [if_pos htm] at hy
    obtain ⟨rfl, rfl⟩ := hy
    subst htm
    go_enter Tryd.func6, Tryd.ntmps6
    go_wp2_with fail
    refine (HW.out w HT).mono ?_
    rintro _ w1 ⟨rfl, b1⟩
    go_wp2_with fail
    refine (HS.out w1 (HT.below b1)).mono ?_
    rintro _ w2 ⟨rfl, hb2⟩
    have b2 := b1.trans (hb2.mono b1.size)
    have kD : ∀ d os, Calls Tryd.prog 18 #[.string ⟨⟨b⟩⟩, .int .i64 n] (Go.Sort.grow (redrawn w2 d) os) fun e w'' => e = .returned (.string ⟨⟨k⟩⟩) ∧ ∃ p : Regrown, w'' = Go.Sort.grow (redrawn w2 p.d) p.os := fun d os => Calls.regrown_of (HD.out _ ((HT.below b2).below (below_regrown w2 d os)))
    have kM : ∀ d os, Calls Tryd.prog 17 #[.string ⟨⟨k⟩⟩, .string ⟨⟨h⟩⟩] (Go.Sort.grow (redrawn w2 d) os) fun e w'' => e = .returned (.string ⟨⟨t⟩⟩) ∧ ∃ p : Regrown, w'' = Go.Sort.grow (redrawn w2 p.d) p.os := fun d os => Calls.regrown_of (HM.out _ ((HT.below b2).below (below_regrown w2 d os)))
    clear hb2 b1 HD HM HS HW
    go_wp2_with fail
    refine wp_region_quiet_below (by kernel_rfl) (by kernel_rfl) ?_
    repeat (quiet_step (first | exact kD _ _ | exact kM _ _))
    refine wpQuiet_nil ?_
    intro _ hw'
    obtain ⟨⟨dq, osq⟩, hw''⟩ := hw'
    subst hw''
    have b3 : Below w.heap.size w (Go.Sort.grow (redrawn w2 dq) osq) := b2.trans ((below_regrown w2 dq osq).mono b2.size)
    clear kD kM b2
    generalize Go.Sort.grow (redrawn w2 dq) osq = w3 at *
    go_wp2_with fail
    refine (HO.out w3 (HT.below b3)).mono ?_
    rintro _ w4 ⟨rfl, hb4⟩
    have b4 := b3.trans (hb4.mono b3.size)
    clear hb4 b3
    go_wp2
    go_ret
    exact ⟨rfl, b4⟩
  · rw [if_neg htm] at hy
    obtain ⟨rfl, rfl⟩ := hy
    have hq : (t == m) = false := by simpa using htm
    go_enter Tryd.func6, Tryd.ntmps6
    go_wp2_with fail
    refine (HW.out w HT).mono ?_
    rintro _ w1 ⟨rfl, b1⟩
    go_wp2_with fail
    refine (HS.out w1 (HT.below b1)).mono ?_
    rintro _ w2 ⟨rfl, hb2⟩
    have b2 := b1.trans (hb2.mono b1.size)
    have kD : ∀ d os, Calls Tryd.prog 18 #[.string ⟨⟨b⟩⟩, .int .i64 n] (Go.Sort.grow (redrawn w2 d) os) fun e w'' => e = .returned (.string ⟨⟨k⟩⟩) ∧ ∃ p : Regrown, w'' = Go.Sort.grow (redrawn w2 p.d) p.os := fun d os => Calls.regrown_of (HD.out _ ((HT.below b2).below (below_regrown w2 d os)))
    have kM : ∀ d os, Calls Tryd.prog 17 #[.string ⟨⟨k⟩⟩, .string ⟨⟨h⟩⟩] (Go.Sort.grow (redrawn w2 d) os) fun e w'' => e = .returned (.string ⟨⟨m⟩⟩) ∧ ∃ p : Regrown, w'' = Go.Sort.grow (redrawn w2 p.d) p.os := fun d os => Calls.regrown_of (HM.out _ ((HT.below b2).below (below_regrown w2 d os)))
    clear hb2 b1 HD HM HS HW htm
    go_wp2_with fail
    refine wp_region_quiet_below (by kernel_rfl) (by kernel_rfl) ?_
    repeat (quiet_step (first | exact kD _ _ | exact kM _ _))
    refine wpQuiet_nil ?_
    intro _ hw'
    obtain ⟨⟨dq, osq⟩, hw''⟩ := hw'
    subst hw''
    have b3 : Below w.heap.size w (Go.Sort.grow (redrawn w2 dq) osq) := b2.trans ((below_regrown w2 dq osq).mono b2.size)
    clear kD kM b2
    generalize Go.Sort.grow (redrawn w2 dq) osq = w3 at *
    go_wp2_with fail
    refine (HO.out w3 (HT.below b3)).mono ?_
    rintro _ w4 ⟨rfl, hb4⟩
    have b4 := b3.trans (hb4.mono b3.size)
    clear hb4 b3
    go_wp2
    go_ret
    exact ⟨rfl, b4⟩
end Go.Proofs.YtdjehpbkkbahcaaDoor
