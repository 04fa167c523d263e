/- The program's seal: what it answers, by what the layers below answer. -/
import Derived.Test.YtdjehpbkkbahcaaDoorDeW2
import Derived.Test.YtdjehpbkkbahcaaDoorMkB
import Derived.Test.YtdjehpbkkbahcaaDoorSlPure
import Derived.Lib.QuietBelow
namespace Go.Proofs.YtdjehpbkkbahcaaDoor
open Go.RowKit

/-- What derive's Cipher and Sum answer, and ctr's Cipher. -/
abbrev DCipIs (b : List UInt8) (n : Int) (k : List UInt8) : Prop := ∀ w, Tabs w → Calls Tryd.prog 39 #[.string ⟨⟨b⟩⟩, .int .i64 n] w fun e w' => e = .returned (.string ⟨⟨k⟩⟩) ∧ Below w.heap.size w w'
abbrev DSumIs (b : List UInt8) (n : Int) (k : List UInt8) : Prop := ∀ w, Tabs w → Calls Tryd.prog 18 #[.string ⟨⟨b⟩⟩, .int .i64 n] w fun e w' => e = .returned (.string ⟨⟨k⟩⟩) ∧ Below w.heap.size w w'
abbrev CCipIs (k o x c : List UInt8) : Prop := ∀ w, Calls Tryd.prog 38 #[.string ⟨⟨k⟩⟩, .string ⟨⟨o⟩⟩, .string ⟨⟨x⟩⟩] w fun e w' => e = .returned (.string ⟨⟨c⟩⟩) ∧ Below w.heap.size w w'
abbrev EquIs (a c : List UInt8) (q : Bool) : Prop := ∀ w, Calls Tryd.prog 30 #[.string ⟨⟨a⟩⟩, .string ⟨⟨c⟩⟩] w fun e w' => e = .returned (.bool q) ∧ Below w.heap.size w w'
/-- What its own parts answer. -/
abbrev CipIs (b : List UInt8) (n : Int) (o x c : List UInt8) : Prop := ∀ w, Tabs w → Calls Tryd.prog 21 #[.string ⟨⟨b⟩⟩, .int .i64 n, .string ⟨⟨o⟩⟩, .string ⟨⟨x⟩⟩] w fun e w' => e = .returned (.string ⟨⟨c⟩⟩) ∧ Below w.heap.size w w'
abbrev SmIs (b : List UInt8) (n : Int) (s m : List UInt8) : Prop := ∀ w, Tabs w → Calls Tryd.prog 22 #[.string ⟨⟨b⟩⟩, .int .i64 n, .string ⟨⟨s⟩⟩] w fun e w' => e = .returned (.string ⟨⟨m⟩⟩) ∧ Below w.heap.size w w'

set_option maxRecDepth 100000 in
theorem ciphered_by (b k o x c : List UInt8) (n : Int) (HD : Hid (DCipIs b n k)) (HC : Hid (CCipIs k o x c)) : CipIs b n o x c := by
  intro w HT
  go_enter Tryd.func21, Tryd.ntmps21
  go_wp2_with fail
  refine (HD.out w HT).mono ?_
  rintro _ w1 ⟨rfl, b1⟩
  go_wp2_with fail
  refine (HC.out w1).mono ?_
  rintro _ w2 ⟨rfl, hb2⟩
  have b2 := b1.trans (hb2.mono b1.size)
  clear hb2 b1
  go_wp2
  go_ret
  exact ⟨rfl, b2⟩

set_option maxRecDepth 100000 in
theorem sealSum_by (b k s m : List UInt8) (n : Int) (HD : Hid (DSumIs b n k)) (HM : Hid (MacIs k s m)) : SmIs b n s m := by
  intro w HT
  go_enter Tryd.func22, Tryd.ntmps22
  go_wp2_with fail
  refine (HD.out w HT).mono ?_
  rintro _ w1 ⟨rfl, b1⟩
  go_wp2_with fail
  refine (HM.out w1 (HT.below b1)).mono ?_
  rintro _ w2 ⟨rfl, hb2⟩
  have b2 := b1.trans (hb2.mono b1.size)
  clear hb2 b1
  go_wp2
  go_ret
  exact ⟨rfl, b2⟩

abbrev ChkIs (b : List UInt8) (n : Int) (x m : List UInt8) : Prop := ∀ w, Tabs w → Calls Tryd.prog 15 #[.string ⟨⟨b⟩⟩, .int .i64 n, .string ⟨⟨x⟩⟩] w fun e w' => e = .returned (.string ⟨⟨m⟩⟩) ∧ Below w.heap.size w w'
set_option maxRecDepth 100000 in
theorem slSum_by (b k x m : List UInt8) (n : Int) (HK : Hid (KeyIs b n [99, 104, 101, 99, 107] k)) (HM : Hid (MacIs k x m)) : ChkIs b n x m := by
  intro w HT
  go_enter Tryd.func15, Tryd.ntmps15
  go_wp2_with fail
  refine (HK.out w HT).mono ?_
  rintro _ w1 ⟨rfl, b1⟩
  go_wp2_with fail
  refine (HM.out w1 (HT.below b1)).mono ?_
  rintro _ w2 ⟨rfl, hb2⟩
  have b2 := b1.trans (hb2.mono b1.size)
  clear hb2 b1
  go_wp2
  go_ret
  exact ⟨rfl, b2⟩

/-- The number of the error that Check answers. -/
def chkNo (m s : List UInt8) : Int := if m = s then 0 else 62
set_option maxRecDepth 100000 in
theorem slCheck_by (b x m s : List UInt8) (n : Int) (w : World) (HT : Tabs w) (HS : Hid (ChkIs b n x m)) (HE : Hid (EquIs m s (decide (m = s)))) :
    Calls Tryd.prog 16 #[.string ⟨⟨b⟩⟩, .int .i64 n, .string ⟨⟨x⟩⟩, .string ⟨⟨s⟩⟩] w fun e w' => e = .returned (.int .i64 (chkNo m s)) ∧ Below w.heap.size w w' := by
  by_cases h : m = s
  · rw [chkNo, if_pos h]
    rw [decide_eq_true h] at HE
    clear h
    go_enter Tryd.func16, Tryd.ntmps16
    go_wp2_with fail
    refine (HS.out w HT).mono ?_
    rintro _ w1 ⟨rfl, b1⟩
    go_wp2_with fail
    refine (HE.out w1).mono ?_
    rintro _ w2 ⟨rfl, hb2⟩
    have b2 := b1.trans (hb2.mono b1.size)
    clear hb2 b1
    go_wp2
    go_ret
    exact ⟨rfl, b2⟩
  · rw [chkNo, if_neg h]
    rw [decide_eq_false h] at HE
    clear h
    go_enter Tryd.func16, Tryd.ntmps16
    go_wp2_with fail
    refine (HS.out w HT).mono ?_
    rintro _ w1 ⟨rfl, b1⟩
    go_wp2_with fail
    refine (HE.out w1).mono ?_
    rintro _ w2 ⟨rfl, hb2⟩
    have b2 := b1.trans (hb2.mono b1.size)
    clear hb2 b1
    go_wp2
    go_ret
    exact ⟨rfl, b2⟩

/-- What Seal answers. -/
abbrev SealIs (b : List UInt8) (n : Int) (o x s : List UInt8) (q : Int) : Prop := ∀ w, Tabs w → Calls Tryd.prog 10 #[.string ⟨⟨b⟩⟩, .int .i64 n, .string ⟨⟨o⟩⟩, .string ⟨⟨x⟩⟩] w fun e w' => e = .returned (.tuple #[.string ⟨⟨s⟩⟩, .int .i64 q]) ∧ Below w.heap.size w w'

set_option maxRecDepth 100000 in
theorem slSeal_no (b o x : List UInt8) (n : Int) (ho : o.length ≠ 12) : SealIs b n o x [] 1 := by
  intro w HT
  obtain ⟨o1, o2, o3, o4⟩ := len_false ho
  simp only [Int.cast_ofNat_Int] at o1 o3
  clear ho
  go_enter Tryd.func10, Tryd.ntmps10
  go_wp2
  go_ret2
  exact ⟨rfl, Below.refl _ _⟩

set_option maxRecDepth 100000 in
theorem slSeal_by (b o x c m : List UInt8) (n : Int) (ho : o.length = 12) (hx : x.length ≤ 65536) (hc : c.length ≤ 65536) (hm : m.length ≤ 32) (HC : Hid (CipIs b n o x c)) (HS : Hid (SmIs b n (o ++ c) m)) :
    SealIs b n o x (o ++ c ++ m) 0 := by
  intro w HT
  obtain ⟨o1, o2, o3, o4⟩ := len_true ho
  simp only [Int.cast_ofNat_Int] at o1 o3
  have hxi : (x.length : Int) ≤ 65536 := by omega
  have hap1 : ByteArray.mk ⟨o⟩ ++ ByteArray.mk ⟨c⟩ = ⟨⟨o ++ c⟩⟩ := str_app _ _
  have hap2 : ByteArray.mk ⟨o ++ c⟩ ++ ByteArray.mk ⟨m⟩ = ⟨⟨o ++ c ++ m⟩⟩ := str_app _ _
  have hw1 : ¬ 9223372036854775807 < o.length + c.length := by omega
  have hw2 : ¬ 9223372036854775807 < (o ++ c).length + m.length := by rw [List.length_append]; omega
  generalize o ++ c ++ m = r at *
  generalize o ++ c = t at *
  clear ho hc hm
  go_enter Tryd.func10, Tryd.ntmps10
  go_wp2_with fail
  refine (HC.out w HT).mono ?_
  rintro _ w1 ⟨rfl, b1⟩
  go_wp2_with fail
  refine (HS.out w1 (HT.below b1)).mono ?_
  rintro _ w2 ⟨rfl, hb2⟩
  have b2 := b1.trans (hb2.mono b1.size)
  clear hb2 b1
  go_wp2
  go_ret2
  exact ⟨rfl, b2⟩

abbrev HoldIs (b : List UInt8) (n : Int) (s : List UInt8) (q : Bool) : Prop := ∀ w, Tabs w → Calls Tryd.prog 44 #[.string ⟨⟨b⟩⟩, .int .i64 n, .string ⟨⟨s⟩⟩] w fun e w' => e = .returned (.bool q) ∧ Below w.heap.size w w'

set_option maxRecDepth 100000 in
theorem holds_by (b s m : List UInt8) (n : Int) (q : Bool) (h44 : 44 ≤ s.length) (hs : s.length ≤ 65580) (HS : Hid (SmIs b n (s.take (s.length - 32)) m)) (HE : Hid (EquIs m (s.drop (s.length - 32)) q)) : HoldIs b n s q := by
  intro w HT
  obtain ⟨e, he⟩ : ∃ e : Nat, e = s.length - 32 := ⟨_, rfl⟩
  rw [← he] at HS HE
  have e0 : (s.length : Int) - 32 = (e : Int) := by omega
  have f1 : IntKind.i64.wrap (e : Int) = (e : Int) := by rw [IntKind.wrap_i64]; omega
  have c1 : (ByteArray.mk ⟨s⟩).extract 0 e = ⟨⟨s.take e⟩⟩ := by rw [cut_str, List.drop_zero, Nat.sub_zero]
  have c2 : (ByteArray.mk ⟨s⟩).extract e s.length = ⟨⟨s.drop e⟩⟩ := by rw [cut_str, List.take_of_length_le (by rw [List.length_drop]; exact Nat.le_refl _)]
  have g1 : (e : Int) ≤ (s.length : Int) := by omega
  have g2 : ¬ (e : Int) < 0 := by omega
  have g3 : e ≤ s.length := by omega
  generalize s.take e = s1 at *
  generalize s.drop e = s2 at *
  clear h44 hs he
  have kS : ∀ d os, Calls Tryd.prog 22 #[.string ⟨⟨b⟩⟩, .int .i64 n, .string ⟨⟨s1⟩⟩] (Go.Sort.grow (redrawn w d) os) fun e w'' => e = .returned (.string ⟨⟨m⟩⟩) ∧ ∃ p : Regrown, w'' = Go.Sort.grow (redrawn w p.d) p.os := fun d os => Calls.regrown_of (HS.out _ (HT.below (below_regrown w d os)))
  have kE : ∀ d os, Calls Tryd.prog 30 #[.string ⟨⟨m⟩⟩, .string ⟨⟨s2⟩⟩] (Go.Sort.grow (redrawn w d) os) fun e w'' => e = .returned (.bool q) ∧ ∃ p : Regrown, w'' = Go.Sort.grow (redrawn w p.d) p.os := fun d os => Calls.regrown_of (HE.out _)
  clear HS HE
  go_enter Tryd.func44, Tryd.ntmps44
  go_wp2_with fail
  refine wp_region_quiet_below (by kernel_rfl) (by kernel_rfl) ?_
  repeat (quiet_step (first | exact kS _ _ | exact kE _ _))
  refine wpQuiet_nil ?_
  intro _ hw'
  obtain ⟨⟨dq, osq⟩, hw''⟩ := hw'
  subst hw''
  clear kS kE
  go_wp2
  go_ret
  exact ⟨rfl, below_regrown w dq osq⟩

/-- What wrong answers. -/
abbrev WrongIs (b : List UInt8) (n : Int) (s : List UInt8) (q : Int) : Prop := ∀ w, Tabs w → Calls Tryd.prog 27 #[.string ⟨⟨b⟩⟩, .int .i64 n, .string ⟨⟨s⟩⟩] w fun e w' => e = .returned (.int .i64 q) ∧ Below w.heap.size w w'

set_option maxRecDepth 100000 in
theorem wrong_short (b s : List UInt8) (n : Int) (h : s.length < 44) : WrongIs b n s 10 := by
  intro w HT
  have h1 : (s.length : Int) < 44 := by omega
  clear h
  go_enter Tryd.func27, Tryd.ntmps27
  go_wp2
  go_ret
  exact ⟨rfl, Below.refl _ _⟩
set_option maxRecDepth 100000 in
theorem wrong_ok (b s : List UInt8) (n : Int) (h44 : 44 ≤ s.length) (hs : s.length ≤ 65580) (HH : Hid (HoldIs b n s true)) : WrongIs b n s 0 := by
  intro w HT
  have h1 : ¬ (s.length : Int) < 44 := by omega
  have h2 : ¬ (65580 : Int) < (s.length : Int) := by omega
  clear h44 hs
  go_enter Tryd.func27, Tryd.ntmps27
  go_wp2_with fail
  refine (HH.out w HT).mono ?_
  rintro _ w1 ⟨rfl, b1⟩
  go_wp2
  go_ret
  exact ⟨rfl, b1⟩
set_option maxRecDepth 100000 in
theorem wrong_bad (b s : List UInt8) (n : Int) (h44 : 44 ≤ s.length) (hs : s.length ≤ 65580) (HH : Hid (HoldIs b n s false)) : WrongIs b n s 20 := by
  intro w HT
  have h1 : ¬ (s.length : Int) < 44 := by omega
  have h2 : ¬ (65580 : Int) < (s.length : Int) := by omega
  clear h44 hs
  go_enter Tryd.func27, Tryd.ntmps27
  go_wp2_with fail
  refine (HH.out w HT).mono ?_
  rintro _ w1 ⟨rfl, b1⟩
  go_wp2
  go_ret
  exact ⟨rfl, b1⟩

/-- What Open answers. -/
abbrev OpenIs (b : List UInt8) (n : Int) (s x : List UInt8) (q : Int) : Prop := ∀ w, Tabs w → Calls Tryd.prog 12 #[.string ⟨⟨b⟩⟩, .int .i64 n, .string ⟨⟨s⟩⟩] w fun e w' => e = .returned (.tuple #[.string ⟨⟨x⟩⟩, .int .i64 q]) ∧ Below w.heap.size w w'

set_option maxRecDepth 100000 in
theorem slOpen_no (b s : List UInt8) (n q : Int) (hq : q ≠ 0) (HW : Hid (WrongIs b n s q)) : OpenIs b n s [] q := by
  intro w HT
  have h1 : (q != 0) = true := by simpa using hq
  clear hq
  go_enter Tryd.func12, Tryd.ntmps12
  go_wp2_with fail
  refine (HW.out w HT).mono ?_
  rintro _ w1 ⟨rfl, b1⟩
  go_wp2
  go_ret2
  exact ⟨rfl, b1⟩

set_option maxRecDepth 100000 in
theorem slOpen_by (b s x : List UInt8) (n : Int) (h44 : 44 ≤ s.length) (hs : s.length ≤ 65580) (HW : Hid (WrongIs b n s 0)) (HC : Hid (CipIs b n (s.take 12) ((s.drop 12).take (s.length - 32 - 12)) x)) : OpenIs b n s x 0 := by
  intro w HT
  obtain ⟨e, he⟩ : ∃ e : Nat, e = s.length - 32 := ⟨_, rfl⟩
  rw [← he] at HC
  have e0 : (s.length : Int) - 32 = (e : Int) := by omega
  have f1 : IntKind.i64.wrap (e : Int) = (e : Int) := by rw [IntKind.wrap_i64]; omega
  have c1 : (ByteArray.mk ⟨s⟩).extract 0 12 = ⟨⟨s.take 12⟩⟩ := by rw [cut_str, List.drop_zero]
  have c2 : (ByteArray.mk ⟨s⟩).extract 12 e = ⟨⟨(s.drop 12).take (e - 12)⟩⟩ := cut_str _ _ _
  have g1 : (e : Int) ≤ (s.length : Int) := by omega
  have g2 : (12 : Int) ≤ (e : Int) := by omega
  have g3 : e ≤ s.length := by omega
  have g4 : 12 ≤ e := by omega
  have g5 : (12 : Int) ≤ (s.length : Int) := by omega
  have g6 : 12 ≤ s.length := by omega
  generalize s.take 12 = s1 at *
  generalize (s.drop 12).take (e - 12) = s2 at *
  clear h44 hs he
  go_enter Tryd.func12, Tryd.ntmps12
  go_wp2_with fail
  refine (HW.out w HT).mono ?_
  rintro _ w1 ⟨rfl, b1⟩
  have kC : ∀ d os, Calls Tryd.prog 21 #[.string ⟨⟨b⟩⟩, .int .i64 n, .string ⟨⟨s1⟩⟩, .string ⟨⟨s2⟩⟩] (Go.Sort.grow (redrawn w1 d) os) fun e w'' => e = .returned (.string ⟨⟨x⟩⟩) ∧ ∃ p : Regrown, w'' = Go.Sort.grow (redrawn w1 p.d) p.os := fun d os => Calls.regrown_of (HC.out _ ((HT.below b1).below (below_regrown w1 d os)))
  clear HC HW
  go_wp2_with fail
  refine wp_region_quiet_below (by kernel_rfl) (by kernel_rfl) ?_
  repeat (quiet_step (exact kC _ _))
  refine wpQuiet_nil ?_
  intro _ hw'
  obtain ⟨⟨dq, osq⟩, hw''⟩ := hw'
  subst hw''
  have b2 : Below w.heap.size w (Go.Sort.grow (redrawn w1 dq) osq) := b1.trans ((below_regrown w1 dq osq).mono b1.size)
  clear kC b1
  go_wp2
  go_ret2
  exact ⟨rfl, b2⟩
end Go.Proofs.YtdjehpbkkbahcaaDoor
