/- The program's seal: what it answers, by what the layers below answer. -/
import Derived.Test.YtdjehpbkkbahcaaDoorGDeW
import Derived.Test.YtdjehpbkkbahcaaDoorGShaWa
import Derived.Test.YtdjehpbkkbahcaaDoorGPur
import Derived.Lib.QuietBelow
import Derived.Test.YtdjehpbkkbahcaaDoorGCtW
import Derived.Test.YtdjehpbkkbahcaaDoorGHmW
namespace Go.Proofs.YtdjehpbkkbahcaaDoor
open Go.RowKit

/-- What derive's Cipher and Sum answer, and ctr's Cipher. -/
abbrev DCipIs (b : List UInt8) (n : Int) (k : List UInt8) : Prop := ∀ w, Tabs w → Calls Tryd.prog 39 #[.string ⟨⟨b⟩⟩, .int .i64 n] w fun e w' => e = .returned (.string ⟨⟨k⟩⟩) ∧ Below w.heap.size w w'
abbrev DSumIs (b : List UInt8) (n : Int) (k : List UInt8) : Prop := ∀ w, Tabs w → Calls Tryd.prog 18 #[.string ⟨⟨b⟩⟩, .int .i64 n] w fun e w' => e = .returned (.string ⟨⟨k⟩⟩) ∧ Below w.heap.size w w'
abbrev CCipIs (k o x c : List UInt8) : Prop := ∀ w, Calls Tryd.prog 38 #[.string ⟨⟨k⟩⟩, .string ⟨⟨o⟩⟩, .string ⟨⟨x⟩⟩] w fun e w' => e = .returned (.string ⟨⟨c⟩⟩) ∧ Below w.heap.size w w'
abbrev EquIs (a c : List UInt8) (q : Bool) : Prop := ∀ w, Calls Tryd.prog 30 #[.string ⟨⟨a⟩⟩, .string ⟨⟨c⟩⟩] w fun e w' => e = .returned (.bool q) ∧ Below w.heap.size w w'
/-- What its own parts answer. -/
abbrev CipIs (b : List UInt8) (n : Int) (o x c : List UInt8) : Prop := ∀ w, Tabs w → Calls Tryd.prog 21 #[.string ⟨⟨b⟩⟩, .int .i64 n, .string ⟨⟨o⟩⟩, .string ⟨⟨x⟩⟩] w fun e w' => e = .returned (.string ⟨⟨c⟩⟩) ∧ Below w.heap.size w w'
abbrev SmIs (b : List UInt8) (n : Int) (s m : List UInt8) : Prop := ∀ w, Tabs w → Calls Tryd.prog 22 #[.string ⟨⟨b⟩⟩, .int .i64 n, .string ⟨⟨s⟩⟩] w fun e w' => e = .returned (.string ⟨⟨m⟩⟩) ∧ Below w.heap.size w w'

set_option maxRecDepth 100000 in
theorem ciphered_by (b k o x c : List UInt8) (n : Int) (HD : Hid (DCipIs b n k)) (HC : Hid (CCipIs k o x c)) : CipIs b n o x c := by
  intro w HT
  go_enter Tryd.func21, Tryd.ntmps21
  go_wp2_with fail
  refine (HD.out w HT).mono ?_
  rintro _ w1 ⟨rfl, b1⟩
  go_wp2_with fail
  refine (HC.out w1).mono ?_
  rintro _ w2 ⟨rfl, hb2⟩
  have b2 := b1.trans (hb2.mono b1.size)
  clear hb2 b1
  go_wp2
  go_ret
  exact ⟨rfl, b2⟩

set_option maxRecDepth 100000 in
theorem sealSum_by (b k s m : List UInt8) (n : Int) (HD : Hid (DSumIs b n k)) (HM : Hid (MacIs k s m)) : SmIs b n s m := by
  intro w HT
  go_enter Tryd.func22, Tryd.ntmps22
  go_wp2_with fail
  refine (HD.out w HT).mono ?_
  rintro _ w1 ⟨rfl, b1⟩
  go_wp2_with fail
  refine (HM.out w1 (HT.below b1)).mono ?_
  rintro _ w2 ⟨rfl, hb2⟩
  have b2 := b1.trans (hb2.mono b1.size)
  clear hb2 b1
  go_wp2
  go_ret
  exact ⟨rfl, b2⟩

abbrev ChkIs (b : List UInt8) (n : Int) (x m : List UInt8) : Prop := ∀ w, Tabs w → Calls Tryd.prog 15 #[.string ⟨⟨b⟩⟩, .int .i64 n, .string ⟨⟨x⟩⟩] w fun e w' => e = .returned (.string ⟨⟨m⟩⟩) ∧ Below w.heap.size w w'
set_option maxRecDepth 100000 in
theorem slSum_by (b k x m : List UInt8) (n : Int) (HK : Hid (KeyIs b n [99, 104, 101, 99, 107] k)) (HM : Hid (MacIs k x m)) : ChkIs b n x m := by
  intro w HT
  go_enter Tryd.func15, Tryd.ntmps15
  go_wp2_with fail
  refine (HK.out w HT).mono ?_
  rintro _ w1 ⟨rfl, b1⟩
  go_wp2_with fail
  refine (HM.out w1 (HT.below b1)).mono ?_
  rintro _ w2 ⟨rfl, hb2⟩
  have b2 := b1.trans (hb2.mono b1.size)
  clear hb2 b1
  go_wp2
  go_ret
  exact ⟨rfl, b2⟩

/-- The number of the error that Check answers. -/
def chkNo (m s : List UInt8) : Int := if m = s then 0 else 62
set_option maxRecDepth 100000 in
theorem slCheck_by (b x m s : List UInt8) (n : Int) (w : World) (HT : Tabs w) (HS : Hid (ChkIs b n x m)) (HE : Hid (EquIs m s (decide (m = s)))) :
    Calls Tryd.prog 16 #[.string ⟨⟨b⟩⟩, .int .i64 n, .string ⟨⟨x⟩⟩, .string ⟨⟨s⟩⟩] w fun e w' => e = .returned (.int .i64 (chkNo m s)) ∧ Below w.heap.size w w' := by
  by_cases h : m = s
  · rw [chkNo, if_pos h]
    rw [decide_eq_true h] at HE
    clear h
    go_enter Tryd.func16, Tryd.ntmps16
    go_wp2_with fail
    refine (HS.out w HT).mono ?_
    rintro _ w1 ⟨rfl, b1⟩
    go_wp2_with fail
    refine (HE.out w1).mono ?_
    rintro _ w2 ⟨rfl, hb2⟩
    have b2 := b1.trans (hb2.mono b1.size)
    clear hb2 b1
    go_wp2
    go_ret
    exact ⟨rfl, b2⟩
  · rw [chkNo, if_neg h]
    rw [decide_eq_false h] at HE
    clear h
    go_enter Tryd.func16, Tryd.ntmps16
    go_wp2_with fail
    refine (HS.out w HT).mono ?_
    rintro _ w1 ⟨rfl, b1⟩
    go_wp2_with fail
    refine (HE.out w1).mono ?_
    rintro _ w2 ⟨rfl, hb2⟩
    have b2 := b1.trans (hb2.mono b1.size)
    clear hb2 b1
    go_wp2
    go_ret
    exact ⟨rfl, b2⟩

/-- What Seal answers. -/
abbrev SealIs (b : List UInt8) (n : Int) (o x s : List UInt8) (q : Int) : Prop := ∀ w, Tabs w → Calls Tryd.prog 10 #[.string ⟨⟨b⟩⟩, .int .i64 n, .string ⟨⟨o⟩⟩, .string ⟨⟨x⟩⟩] w fun e w' => e = .returned (.tuple #[.string ⟨⟨s⟩⟩, .int .i64 q]) ∧ Below w.heap.size w w'

set_option maxRecDepth 100000 in
theorem slSeal_no (b o x : List UInt8) (n : Int) (ho : o.length ≠ 12) : SealIs b n o x [] 1 := by
  intro w HT
  obtain ⟨o1, o2, o3, o4⟩ := len_false ho
  simp only [Int.cast_ofNat_Int] at o1 o3
  clear ho
  go_enter Tryd.func10, Tryd.ntmps10
  go_wp2
  go_ret2
  exact ⟨rfl, Below.refl _ _⟩

set_option maxRecDepth 100000 in
theorem slSeal_by (b o x c m : List UInt8) (n : Int) (ho : o.length = 12) (hx : x.length ≤ 65536) (hc : c.length ≤ 65536) (hm : m.length ≤ 32) (HC : Hid (CipIs b n o x c)) (HS : Hid (SmIs b n (o ++ c) m)) :
    SealIs b n o x (o ++ c ++ m) 0 := by
  intro w HT
  obtain ⟨o1, o2, o3, o4⟩ := len_true ho
  simp only [Int.cast_ofNat_Int] at o1 o3
  have hxi : (x.length : Int) ≤ 65536 := by omega
  have hap1 : ByteArray.mk ⟨o⟩ ++ ByteArray.mk ⟨c⟩ = ⟨⟨o ++ c⟩⟩ := str_app _ _
  have hap2 : ByteArray.mk ⟨o ++ c⟩ ++ ByteArray.mk ⟨m⟩ = ⟨⟨o ++ c ++ m⟩⟩ := str_app _ _
  have hw1 : ¬ 9223372036854775807 < o.length + c.length := by omega
  have hw2 : ¬ 9223372036854775807 < (o ++ c).length + m.length := by rw [List.length_append]; omega
  generalize o ++ c ++ m = r at *
  generalize o ++ c = t at *
  clear ho hc hm
  go_enter Tryd.func10, Tryd.ntmps10
  go_wp2_with fail
  refine (HC.out w HT).mono ?_
  rintro _ w1 ⟨rfl, b1⟩
  go_wp2_with fail
  refine (HS.out w1 (HT.below b1)).mono ?_
  rintro _ w2 ⟨rfl, hb2⟩
  have b2 := b1.trans (hb2.mono b1.size)
  clear hb2 b1
  go_wp2
  go_ret2
  exact ⟨rfl, b2⟩

abbrev HoldIs (b : List UInt8) (n : Int) (s : List UInt8) (q : Bool) : Prop := ∀ w, Tabs w → Calls Tryd.prog 44 #[.string ⟨⟨b⟩⟩, .int .i64 n, .string ⟨⟨s⟩⟩] w fun e w' => e = .returned (.bool q) ∧ Below w.heap.size w w'

set_option maxRecDepth 100000 in
theorem holds_by (b s m : List UInt8) (n : Int) (q : Bool) (h44 : 44 ≤ s.length) (hs : s.length ≤ 65580) (HS : Hid (SmIs b n (s.take (s.length - 32)) m)) (HE : Hid (EquIs m (s.drop (s.length - 32)) q)) : HoldIs b n s q := by
  intro w HT
  obtain ⟨e, he⟩ : ∃ e : Nat, e = s.length - 32 := ⟨_, rfl⟩
  rw [← he] at HS HE
  have e0 : (s.length : Int) - 32 = (e : Int) := by omega
  have f1 : IntKind.i64.wrap (e : Int) = (e : Int) := by rw [IntKind.wrap_i64]; omega
  have c1 : (ByteArray.mk ⟨s⟩).extract 0 e = ⟨⟨s.take e⟩⟩ := by rw [cut_str, List.drop_zero, Nat.sub_zero]
  have c2 : (ByteArray.mk ⟨s⟩).extract e s.length = ⟨⟨s.drop e⟩⟩ := by rw [cut_str, List.take_of_length_le (by rw [List.length_drop]; exact Nat.le_refl _)]
  have g1 : (e : Int) ≤ (s.length : Int) := by omega
  have g2 : ¬ (e : Int) < 0 := by omega
  have g3 : e ≤ s.length := by omega
  generalize s.take e = s1 at *
  generalize s.drop e = s2 at *
  clear h44 hs he
  have kS : ∀ d os, Calls Tryd.prog 22 #[.string ⟨⟨b⟩⟩, .int .i64 n, .string ⟨⟨s1⟩⟩] (Go.Sort.grow (redrawn w d) os) fun e w'' => e = .returned (.string ⟨⟨m⟩⟩) ∧ ∃ p : Regrown, w'' = Go.Sort.grow (redrawn w p.d) p.os := fun d os => Calls.regrown_of (HS.out _ (HT.below (below_regrown w d os)))
  have kE : ∀ d os, Calls Tryd.prog 30 #[.string ⟨⟨m⟩⟩, .string ⟨⟨s2⟩⟩] (Go.Sort.grow (redrawn w d) os) fun e w'' => e = .returned (.bool q) ∧ ∃ p : Regrown, w'' = Go.Sort.grow (redrawn w p.d) p.os := fun d os => Calls.regrown_of (HE.out _)
  clear HS HE
  go_enter Tryd.func44, Tryd.ntmps44
  go_wp2_with fail
  refine wp_region_quiet_below (by kernel_rfl) (by kernel_rfl) ?_
  repeat (quiet_step (first | exact kS _ _ | exact kE _ _))
  refine wpQuiet_nil ?_
  intro _ hw'
  obtain ⟨⟨dq, osq⟩, hw''⟩ := hw'
  subst hw''
  clear kS kE
  go_wp2
  go_ret
  exact ⟨rfl, below_regrown w dq osq⟩

/-- What wrong answers. -/
abbrev WrongIs (b : List UInt8) (n : Int) (s : List UInt8) (q : Int) : Prop := ∀ w, Tabs w → Calls Tryd.prog 27 #[.string ⟨⟨b⟩⟩, .int .i64 n, .string ⟨⟨s⟩⟩] w fun e w' => e = .returned (.int .i64 q) ∧ Below w.heap.size w w'

set_option maxRecDepth 100000 in
theorem wrong_short (b s : List UInt8) (n : Int) (h : s.length < 44) : WrongIs b n s 10 := by
  intro w HT
  have h1 : (s.length : Int) < 44 := by omega
  clear h
  go_enter Tryd.func27, Tryd.ntmps27
  go_wp2
  go_ret
  exact ⟨rfl, Below.refl _ _⟩
set_option maxRecDepth 100000 in
theorem wrong_ok (b s : List UInt8) (n : Int) (h44 : 44 ≤ s.length) (hs : s.length ≤ 65580) (HH : Hid (HoldIs b n s true)) : WrongIs b n s 0 := by
  intro w HT
  have h1 : ¬ (s.length : Int) < 44 := by omega
  have h2 : ¬ (65580 : Int) < (s.length : Int) := by omega
  clear h44 hs
  go_enter Tryd.func27, Tryd.ntmps27
  go_wp2_with fail
  refine (HH.out w HT).mono ?_
  rintro _ w1 ⟨rfl, b1⟩
  go_wp2
  go_ret
  exact ⟨rfl, b1⟩
set_option maxRecDepth 100000 in
theorem wrong_bad (b s : List UInt8) (n : Int) (h44 : 44 ≤ s.length) (hs : s.length ≤ 65580) (HH : Hid (HoldIs b n s false)) : WrongIs b n s 20 := by
  intro w HT
  have h1 : ¬ (s.length : Int) < 44 := by omega
  have h2 : ¬ (65580 : Int) < (s.length : Int) := by omega
  clear h44 hs
  go_enter Tryd.func27, Tryd.ntmps27
  go_wp2_with fail
  refine (HH.out w HT).mono ?_
  rintro _ w1 ⟨rfl, b1⟩
  go_wp2
  go_ret
  exact ⟨rfl, b1⟩

/-- What Open answers. -/
abbrev OpenIs (b : List UInt8) (n : Int) (s x : List UInt8) (q : Int) : Prop := ∀ w, Tabs w → Calls Tryd.prog 12 #[.string ⟨⟨b⟩⟩, .int .i64 n, .string ⟨⟨s⟩⟩] w fun e w' => e = .returned (.tuple #[.string ⟨⟨x⟩⟩, .int .i64 q]) ∧ Below w.heap.size w w'

set_option maxRecDepth 100000 in
theorem slOpen_no (b s : List UInt8) (n q : Int) (hq : q ≠ 0) (HW : Hid (WrongIs b n s q)) : OpenIs b n s [] q := by
  intro w HT
  have h1 : (q != 0) = true := by simpa using hq
  clear hq
  go_enter Tryd.func12, Tryd.ntmps12
  go_wp2_with fail
  refine (HW.out w HT).mono ?_
  rintro _ w1 ⟨rfl, b1⟩
  go_wp2
  go_ret2
  exact ⟨rfl, b1⟩

set_option maxRecDepth 100000 in
theorem slOpen_by (b s x : List UInt8) (n : Int) (h44 : 44 ≤ s.length) (hs : s.length ≤ 65580) (HW : Hid (WrongIs b n s 0)) (HC : Hid (CipIs b n (s.take 12) ((s.drop 12).take (s.length - 32 - 12)) x)) : OpenIs b n s x 0 := by
  intro w HT
  obtain ⟨e, he⟩ : ∃ e : Nat, e = s.length - 32 := ⟨_, rfl⟩
  rw [← he] at HC
  have e0 : (s.length : Int) - 32 = (e : Int) := by omega
  have f1 : IntKind.i64.wrap (e : Int) = (e : Int) := by rw [IntKind.wrap_i64]; omega
  have c1 : (ByteArray.mk ⟨s⟩).extract 0 12 = ⟨⟨s.take 12⟩⟩ := by rw [cut_str, List.drop_zero]
  have c2 : (ByteArray.mk ⟨s⟩).extract 12 e = ⟨⟨(s.drop 12).take (e - 12)⟩⟩ := cut_str _ _ _
  have g1 : (e : Int) ≤ (s.length : Int) := by omega
  have g2 : (12 : Int) ≤ (e : Int) := by omega
  have g3 : e ≤ s.length := by omega
  have g4 : 12 ≤ e := by omega
  have g5 : (12 : Int) ≤ (s.length : Int) := by omega
  have g6 : 12 ≤ s.length := by omega
  generalize s.take 12 = s1 at *
  generalize (s.drop 12).take (e - 12) = s2 at *
  clear h44 hs he
  go_enter Tryd.func12, Tryd.ntmps12
  go_wp2_with fail
  refine (HW.out w HT).mono ?_
  rintro _ w1 ⟨rfl, b1⟩
  have kC : ∀ d os, Calls Tryd.prog 21 #[.string ⟨⟨b⟩⟩, .int .i64 n, .string ⟨⟨s1⟩⟩, .string ⟨⟨s2⟩⟩] (Go.Sort.grow (redrawn w1 d) os) fun e w'' => e = .returned (.string ⟨⟨x⟩⟩) ∧ ∃ p : Regrown, w'' = Go.Sort.grow (redrawn w1 p.d) p.os := fun d os => Calls.regrown_of (HC.out _ ((HT.below b1).below (below_regrown w1 d os)))
  clear HC HW
  go_wp2_with fail
  refine wp_region_quiet_below (by kernel_rfl) (by kernel_rfl) ?_
  repeat (quiet_step (exact kC _ _))
  refine wpQuiet_nil ?_
  intro _ hw'
  obtain ⟨⟨dq, osq⟩, hw''⟩ := hw'
  subst hw''
  have b2 : Below w.heap.size w (Go.Sort.grow (redrawn w1 dq) osq) := b1.trans ((below_regrown w1 dq osq).mono b1.size)
  clear kC b1
  go_wp2
  go_ret2
  exact ⟨rfl, b2⟩
end Go.Proofs.YtdjehpbkkbahcaaDoor

/- The program's seal at any arguments; works. -/

namespace Go.Proofs.YtdjehpbkkbahcaaDoor
open Go.RowKit

theorem cipIs (b o x : List UInt8) (n : Int) (hb : b.length ≤ 10000) : CipIs b n o x (Sl.cip b n o x) :=
  ciphered_by b (Sl.ck b n) o x _ n (Lib.hid fun w h => dCipher_any b n w h hb) (Lib.hid fun w => Cipher_any (Sl.ck b n) o x w)
theorem smIs (b s : List UInt8) (n : Int) (hb : b.length ≤ 10000) (hs : s.length ≤ 10000) : SmIs b n s (Sl.mc b n s) :=
  sealSum_by b (Sl.sk b n) s _ n (Lib.hid fun w h => dSum_any b n w h hb) (Lib.hid (macIs (Sl.sk b n) s (by rw [Sl.sk_length]; decide) hs))
theorem chkIs (b x : List UInt8) (n : Int) (hb : b.length ≤ 10000) (hx : x.length ≤ 10000) : ChkIs b n x (Sl.chk b n x) :=
  slSum_by b _ x _ n (Lib.hid (keyIs b [99, 104, 101, 99, 107] n hb (by decide))) (Lib.hid (macIs _ x (by rw [De.key_length]; decide) hx))
theorem equIs (a c : List UInt8) (h : a.length = 32) : EquIs a c (decide (a = c)) := fun w => Equal_any a c w (by omega)
theorem slCheck_any (b x s : List UInt8) (n : Int) (w : World) (HT : Tabs w) (hb : b.length ≤ 10000) (hx : x.length ≤ 10000) :
    Calls Tryd.prog 16 #[.string ⟨⟨b⟩⟩, .int .i64 n, .string ⟨⟨x⟩⟩, .string ⟨⟨s⟩⟩] w fun e w' => e = .returned (.int .i64 (chkNo (Sl.chk b n x) s)) ∧ Below w.heap.size w w' :=
  slCheck_by b x _ s n w HT (Lib.hid (chkIs b x n hb hx)) (Lib.hid (equIs _ s (Sl.chk_length _ _ _)))
theorem sealIs (b o x : List UInt8) (n : Int) (hb : b.length ≤ 10000) (ho : o.length = 12) (hx : x.length ≤ 9000) : SealIs b n o x (Sl.sld b n o x) 0 := by
  have hc := Sl.cip_le b n o x
  exact slSeal_by b o x (Sl.cip b n o x) _ n ho (by omega) (by omega) (Nat.le_of_eq (Sl.mc_length _ _ _)) (Lib.hid (cipIs b o x n hb)) (Lib.hid (smIs b _ n hb (by rw [List.length_append]; omega)))
theorem openIs (b s : List UInt8) (n : Int) (hb : b.length ≤ 10000) (hs : s.length ≤ 9000) : OpenIs b n s (Sl.opn b n s).1 ((Sl.opn b n s).2 : Nat) := by
  by_cases h : s.length < 44
  · rw [Sl.opn, if_pos h]
    exact slOpen_no b s n 10 (by decide) (Lib.hid (wrong_short b s n h))
  · have h44 : 44 ≤ s.length := by omega
    have HS := smIs b (s.take (s.length - 32)) n hb (by rw [List.length_take]; omega)
    have HE := equIs (Sl.mc b n (s.take (s.length - 32))) (s.drop (s.length - 32)) (Sl.mc_length _ _ _)
    rw [Sl.opn, if_neg h]
    by_cases h2 : Sl.mc b n (s.take (s.length - 32)) = s.drop (s.length - 32)
    · rw [if_pos h2]
      rw [decide_eq_true h2] at HE
      exact slOpen_by b s _ n h44 (by omega) (Lib.hid (wrong_ok b s n h44 (by omega) (Lib.hid (holds_by b s _ n true h44 (by omega) (Lib.hid HS) (Lib.hid HE))))) (Lib.hid (cipIs b _ _ n hb))
    · rw [if_neg h2]
      rw [decide_eq_false h2] at HE
      exact slOpen_no b s n 20 (by decide) (Lib.hid (wrong_bad b s n h44 (by omega) (Lib.hid (holds_by b s _ n false h44 (by omega) (Lib.hid HS) (Lib.hid HE)))))
end Go.Proofs.YtdjehpbkkbahcaaDoor

/- works (of legatelaw07), by what the calls answer. -/

namespace Go.Proofs.YtdjehpbkkbahcaaDoor
open Go.RowKit

set_option maxRecDepth 100000 in
set_option maxHeartbeats 1000000 in
theorem worksS_by (s m : List UInt8) (w : World) (HT : Tabs w) (hs : s.length = 44)
    (H1 : Hid (∀ w, Tabs w → Calls Tryd.prog 10 #[.string ⟨#[107]⟩, .int .i64 1, .string ⟨#[48, 49, 50, 51, 52, 53, 54, 55, 56, 57, 97, 98]⟩, .string ⟨#[]⟩] w fun e w' => e = .returned (.tuple #[.string ⟨⟨s⟩⟩, .int .i64 0]) ∧ Below w.heap.size w w'))
    (H2 : Hid (∀ w, Tabs w → Calls Tryd.prog 12 #[.string ⟨#[107]⟩, .int .i64 1, .string ⟨⟨s⟩⟩] w fun e w' => e = .returned (.tuple #[.string ⟨#[]⟩, .int .i64 0]) ∧ Below w.heap.size w w'))
    (H3 : Hid (∀ w, Tabs w → Calls Tryd.prog 12 #[.string ⟨#[107]⟩, .int .i64 1, .string ⟨#[120]⟩] w fun e w' => e = .returned (.tuple #[.string ⟨#[]⟩, .int .i64 10]) ∧ Below w.heap.size w w'))
    (H4 : Hid (∀ w, Tabs w → Calls Tryd.prog 15 #[.string ⟨#[107]⟩, .int .i64 1, .string ⟨#[97]⟩] w fun e w' => e = .returned (.string ⟨⟨m⟩⟩) ∧ Below w.heap.size w w'))
    (H5 : Hid (∀ w, Tabs w → Calls Tryd.prog 16 #[.string ⟨#[107]⟩, .int .i64 1, .string ⟨#[97]⟩, .string ⟨⟨m⟩⟩] w fun e w' => e = .returned (.int .i64 0) ∧ Below w.heap.size w w')) :
    Calls Tryd.prog 8 #[] w fun e w' => e = .returned (.bool true) ∧ Below w.heap.size w w' := by
  have e1 := (len_true hs).2.2.1
  simp only [Int.cast_ofNat_Int] at e1
  clear hs
  go_enter Tryd.func8, Tryd.ntmps8
  go_wp2_with fail
  refine (H1.out w HT).mono ?_
  rintro _ w1 ⟨rfl, b1⟩
  go_wp2_with fail
  refine (H2.out w1 (HT.below b1)).mono ?_
  rintro _ w2 ⟨rfl, hb2⟩
  have b2 := b1.trans (hb2.mono b1.size)
  clear hb2 b1
  go_wp2_with fail
  refine (H3.out w2 (HT.below b2)).mono ?_
  rintro _ w3 ⟨rfl, hb3⟩
  have b3 := b2.trans (hb3.mono b2.size)
  clear hb3 b2
  go_wp2_with fail
  refine (H4.out w3 (HT.below b3)).mono ?_
  rintro _ w4 ⟨rfl, hb4⟩
  have b4 := b3.trans (hb4.mono b3.size)
  clear hb4 b3
  go_wp2_with fail
  refine (H5.out w4 (HT.below b4)).mono ?_
  rintro _ w5 ⟨rfl, hb5⟩
  have b5 := b4.trans (hb5.mono b4.size)
  clear hb5 b4
  go_wp2
  go_ret
  exact ⟨rfl, b5⟩
end Go.Proofs.YtdjehpbkkbahcaaDoor

/- SealBack's walk. -/

namespace Go.Proofs.YtdjehpbkkbahcaaDoor
open Go.RowKit

/-- What works answers. -/
abbrev WorksS : Prop := ∀ w, Tabs w → Calls Tryd.prog 8 #[] w fun e w' => e = .returned (.bool true) ∧ Below w.heap.size w w'

set_option maxRecDepth 100000 in
theorem sealBack_a (b o x : List UInt8) (n : Int) (w : World) (HT : Tabs w) (HW : Hid WorksS) (h : 1000 < b.length) :
    Calls Tryd.prog 5 #[.string ⟨⟨b⟩⟩, .int .i64 n, .string ⟨⟨o⟩⟩, .string ⟨⟨x⟩⟩] w fun e w' => e = .returned (.bool true) ∧ Below w.heap.size w w' := by
  have h1 : (1000 : Int) < (b.length : Int) := by omega
  clear h
  go_enter Tryd.func5, Tryd.ntmps5
  go_wp2_with fail
  refine (HW.out w HT).mono ?_
  rintro _ w1 ⟨rfl, b1⟩
  go_wp2
  go_ret
  exact ⟨rfl, b1⟩
set_option maxRecDepth 100000 in
theorem sealBack_b (b o x : List UInt8) (n : Int) (w : World) (HT : Tabs w) (HW : Hid WorksS) (h : b.length ≤ 1000) (hx : 2000 < x.length) :
    Calls Tryd.prog 5 #[.string ⟨⟨b⟩⟩, .int .i64 n, .string ⟨⟨o⟩⟩, .string ⟨⟨x⟩⟩] w fun e w' => e = .returned (.bool true) ∧ Below w.heap.size w w' := by
  have h1 : ¬ (1000 : Int) < (b.length : Int) := by omega
  have h2 : (2000 : Int) < (x.length : Int) := by omega
  clear h hx
  go_enter Tryd.func5, Tryd.ntmps5
  go_wp2_with fail
  refine (HW.out w HT).mono ?_
  rintro _ w1 ⟨rfl, b1⟩
  go_wp2
  go_ret
  exact ⟨rfl, b1⟩
set_option maxRecDepth 100000 in
theorem sealBack_c (b o x : List UInt8) (n : Int) (w : World) (HT : Tabs w) (HW : Hid WorksS) (h : b.length ≤ 1000) (hx : x.length ≤ 2000) (ho : o.length ≠ 12) :
    Calls Tryd.prog 5 #[.string ⟨⟨b⟩⟩, .int .i64 n, .string ⟨⟨o⟩⟩, .string ⟨⟨x⟩⟩] w fun e w' => e = .returned (.bool true) ∧ Below w.heap.size w w' := by
  have h1 : ¬ (1000 : Int) < (b.length : Int) := by omega
  have h2 : ¬ (2000 : Int) < (x.length : Int) := by omega
  have HS := Lib.hid (slSeal_no b o x n ho)
  obtain ⟨o1, o2, o3, o4⟩ := len_false ho
  simp only [Int.cast_ofNat_Int] at o1 o3
  clear h hx ho
  go_enter Tryd.func5, Tryd.ntmps5
  go_wp2_with fail
  refine (HW.out w HT).mono ?_
  rintro _ w1 ⟨rfl, b1⟩
  go_wp2_with fail
  refine (HS.out w1 (HT.below b1)).mono ?_
  rintro _ w2 ⟨rfl, hb2⟩
  have b2 := b1.trans (hb2.mono b1.size)
  clear hb2 b1
  go_wp2
  go_ret
  exact ⟨rfl, b2⟩
set_option maxRecDepth 100000 in
set_option maxHeartbeats 1000000 in
theorem sealBack_d (b o x s : List UInt8) (n : Int) (w : World) (HT : Tabs w) (HW : Hid WorksS) (h : b.length ≤ 1000) (hx : x.length ≤ 2000) (ho : o.length = 12)
    (HS : Hid (SealIs b n o x s 0)) (HO : Hid (OpenIs b n s x 0)) (hs : s.length = x.length + 44) (hn : s.take 12 = o) :
    Calls Tryd.prog 5 #[.string ⟨⟨b⟩⟩, .int .i64 n, .string ⟨⟨o⟩⟩, .string ⟨⟨x⟩⟩] w fun e w' => e = .returned (.bool true) ∧ Below w.heap.size w w' := by
  have h1 : ¬ (1000 : Int) < (b.length : Int) := by omega
  have h2 : ¬ (2000 : Int) < (x.length : Int) := by omega
  obtain ⟨o1, o2, o3, o4⟩ := len_true ho
  simp only [Int.cast_ofNat_Int] at o1 o3
  have c1 : (ByteArray.mk ⟨s⟩).extract 0 12 = ⟨⟨o⟩⟩ := by rw [cut_str, List.drop_zero, ← hn]
  have g5 : (12 : Int) ≤ (s.length : Int) := by omega
  have g6 : 12 ≤ s.length := by omega
  obtain ⟨q, hq⟩ : ∃ q : Nat, q = s.length := ⟨_, rfl⟩
  have e0 : (x.length : Int) + 44 = (s.length : Int) := by omega
  have e1 : IntKind.i64.wrap (s.length : Int) = (s.length : Int) := by rw [IntKind.wrap_i64]; omega
  have e2 : ((s.length : Int) == (s.length : Int)) = true := by simp
  clear h hx ho hs hn hq
  go_enter Tryd.func5, Tryd.ntmps5
  go_wp2_with fail
  refine (HW.out w HT).mono ?_
  rintro _ w1 ⟨rfl, b1⟩
  go_wp2_with fail
  refine (HS.out w1 (HT.below b1)).mono ?_
  rintro _ w2 ⟨rfl, hb2⟩
  have b2 := b1.trans (hb2.mono b1.size)
  clear hb2 b1
  go_wp2_with fail
  refine (HO.out w2 (HT.below b2)).mono ?_
  rintro _ w3 ⟨rfl, hb3⟩
  have b3 := b2.trans (hb3.mono b2.size)
  clear hb3 b2
  go_wp2
  go_ret
  exact ⟨rfl, b3⟩
end Go.Proofs.YtdjehpbkkbahcaaDoor

/- SealEnds' walk. -/

namespace Go.Proofs.YtdjehpbkkbahcaaDoor
open Go.RowKit

set_option maxRecDepth 100000 in
theorem sealEnds_no (b o x t : List UInt8) (n : Int) (w : World) (HT : Tabs w) (HW : Hid WorksS) (h : 1000 < b.length ∨ 2000 < x.length ∨ t.length ≠ 32 ∨ o.length ≠ 12) :
    Calls Tryd.prog 6 #[.string ⟨⟨b⟩⟩, .int .i64 n, .string ⟨⟨o⟩⟩, .string ⟨⟨x⟩⟩, .string ⟨⟨t⟩⟩] w fun e w' => e = .returned (.bool true) ∧ Below w.heap.size w w' := by
  by_cases h1 : 1000 < b.length
  · have k1 : (1000 : Int) < (b.length : Int) := by omega
    clear h h1
    go_enter Tryd.func6, Tryd.ntmps6
    go_wp2_with fail
    refine (HW.out w HT).mono ?_
    rintro _ w1 ⟨rfl, b1⟩
    go_wp2
    go_ret
    exact ⟨rfl, b1⟩
  · have k1 : ¬ (1000 : Int) < (b.length : Int) := by omega
    by_cases h2 : 2000 < x.length
    · have k2 : (2000 : Int) < (x.length : Int) := by omega
      clear h h1 h2
      go_enter Tryd.func6, Tryd.ntmps6
      go_wp2_with fail
      refine (HW.out w HT).mono ?_
      rintro _ w1 ⟨rfl, b1⟩
      go_wp2
      go_ret
      exact ⟨rfl, b1⟩
    · have k2 : ¬ (2000 : Int) < (x.length : Int) := by omega
      by_cases h3 : t.length = 32
      · obtain ⟨t1, t2, t3, t4⟩ := len_true h3
        have h4 : o.length ≠ 12 := by omega
        obtain ⟨o1, o2, o3, o4⟩ := len_false h4
        simp only [Int.cast_ofNat_Int] at t1 t3 o1 o3
        clear h h1 h2 h3 h4
        go_enter Tryd.func6, Tryd.ntmps6
        go_wp2_with fail
        refine (HW.out w HT).mono ?_
        rintro _ w1 ⟨rfl, b1⟩
        go_wp2
        go_ret
        exact ⟨rfl, b1⟩
      · obtain ⟨t1, t2, t3, t4⟩ := len_false h3
        simp only [Int.cast_ofNat_Int] at t1 t3
        clear h h1 h2 h3
        go_enter Tryd.func6, Tryd.ntmps6
        go_wp2_with fail
        refine (HW.out w HT).mono ?_
        rintro _ w1 ⟨rfl, b1⟩
        go_wp2
        go_ret
        exact ⟨rfl, b1⟩

set_option maxRecDepth 100000 in
set_option maxHeartbeats 1000000 in
theorem sealEnds_yes (b o x t y k : List UInt8) (h m : List UInt8) (n q : Int) (w : World) (HT : Tabs w) (HW : Hid WorksS) (hb : b.length ≤ 1000) (hx : x.length ≤ 2000) (ht : t.length = 32) (ho : o.length = 12)
    (hh : h.length = x.length + 12) (hm : m.length = 32) (HS : Hid (SealIs b n o x (h ++ m) 0)) (HD : Hid (DSumIs b n k)) (HM : Hid (MacIs k h m)) (HO : Hid (OpenIs b n (h ++ t) y q))
    (hy : if t = m then y = x ∧ q = 0 else y = [] ∧ q = 20) :
    Calls Tryd.prog 6 #[.string ⟨⟨b⟩⟩, .int .i64 n, .string ⟨⟨o⟩⟩, .string ⟨⟨x⟩⟩, .string ⟨⟨t⟩⟩] w fun e w' => e = .returned (.bool true) ∧ Below w.heap.size w w' := by
  have k1 : ¬ (1000 : Int) < (b.length : Int) := by omega
  have k2 : ¬ (2000 : Int) < (x.length : Int) := by omega
  obtain ⟨t1, t2, t3, t4⟩ := len_true ht
  obtain ⟨o1, o2, o3, o4⟩ := len_true ho
  simp only [Int.cast_ofNat_Int] at t1 t3 o1 o3
  have hsl : (h ++ m).length = x.length + 44 := by rw [List.length_append, hh, hm]
  obtain ⟨e, he⟩ : ∃ e : Nat, e = h.length := ⟨_, rfl⟩
  have c1 : (ByteArray.mk ⟨h ++ m⟩).extract 0 e = ⟨⟨h⟩⟩ := by rw [cut_str, List.drop_zero, Nat.sub_zero, he, List.take_left]
  have c2 : (ByteArray.mk ⟨h ++ m⟩).extract e (h ++ m).length = ⟨⟨m⟩⟩ := by rw [cut_str, he, List.drop_left, List.take_of_length_le (by rw [List.length_append]; omega)]
  have hap : ByteArray.mk ⟨h⟩ ++ ByteArray.mk ⟨t⟩ = ⟨⟨h ++ t⟩⟩ := str_app _ _
  have hw1 : ¬ 9223372036854775807 < h.length + t.length := by omega
  have e0 : ((h ++ m).length : Int) - 32 = (e : Int) := by omega
  have f1 : IntKind.i64.wrap (e : Int) = (e : Int) := by rw [IntKind.wrap_i64]; omega
  have g0 : ¬ ((h ++ m).length : Int) < 44 := by omega
  have g1 : (e : Int) ≤ ((h ++ m).length : Int) := by omega
  have g2 : ¬ (e : Int) < 0 := by omega
  have g3 : e ≤ (h ++ m).length := by omega
  generalize h ++ m = s at *
  generalize h ++ t = u at *
  clear hh hm ht ho hb hx hsl he
  by_cases htm : t = m
  · rw [if_pos htm] at hy
    obtain ⟨rfl, rfl⟩ := hy
    subst htm
    go_enter Tryd.func6, Tryd.ntmps6
    go_wp2_with fail
    refine (HW.out w HT).mono ?_
    rintro _ w1 ⟨rfl, b1⟩
    go_wp2_with fail
    refine (HS.out w1 (HT.below b1)).mono ?_
    rintro _ w2 ⟨rfl, hb2⟩
    have b2 := b1.trans (hb2.mono b1.size)
    have kD : ∀ d os, Calls Tryd.prog 18 #[.string ⟨⟨b⟩⟩, .int .i64 n] (Go.Sort.grow (redrawn w2 d) os) fun e w'' => e = .returned (.string ⟨⟨k⟩⟩) ∧ ∃ p : Regrown, w'' = Go.Sort.grow (redrawn w2 p.d) p.os := fun d os => Calls.regrown_of (HD.out _ ((HT.below b2).below (below_regrown w2 d os)))
    have kM : ∀ d os, Calls Tryd.prog 17 #[.string ⟨⟨k⟩⟩, .string ⟨⟨h⟩⟩] (Go.Sort.grow (redrawn w2 d) os) fun e w'' => e = .returned (.string ⟨⟨t⟩⟩) ∧ ∃ p : Regrown, w'' = Go.Sort.grow (redrawn w2 p.d) p.os := fun d os => Calls.regrown_of (HM.out _ ((HT.below b2).below (below_regrown w2 d os)))
    clear hb2 b1 HD HM HS HW
    go_wp2_with fail
    refine wp_region_quiet_below (by kernel_rfl) (by kernel_rfl) ?_
    repeat (quiet_step (first | exact kD _ _ | exact kM _ _))
    refine wpQuiet_nil ?_
    intro _ hw'
    obtain ⟨⟨dq, osq⟩, hw''⟩ := hw'
    subst hw''
    have b3 : Below w.heap.size w (Go.Sort.grow (redrawn w2 dq) osq) := b2.trans ((below_regrown w2 dq osq).mono b2.size)
    clear kD kM b2
    generalize Go.Sort.grow (redrawn w2 dq) osq = w3 at *
    go_wp2_with fail
    refine (HO.out w3 (HT.below b3)).mono ?_
    rintro _ w4 ⟨rfl, hb4⟩
    have b4 := b3.trans (hb4.mono b3.size)
    clear hb4 b3
    go_wp2
    go_ret
    exact ⟨rfl, b4⟩
  · rw [if_neg htm] at hy
    obtain ⟨rfl, rfl⟩ := hy
    have hq : (t == m) = false := by simpa using htm
    go_enter Tryd.func6, Tryd.ntmps6
    go_wp2_with fail
    refine (HW.out w HT).mono ?_
    rintro _ w1 ⟨rfl, b1⟩
    go_wp2_with fail
    refine (HS.out w1 (HT.below b1)).mono ?_
    rintro _ w2 ⟨rfl, hb2⟩
    have b2 := b1.trans (hb2.mono b1.size)
    have kD : ∀ d os, Calls Tryd.prog 18 #[.string ⟨⟨b⟩⟩, .int .i64 n] (Go.Sort.grow (redrawn w2 d) os) fun e w'' => e = .returned (.string ⟨⟨k⟩⟩) ∧ ∃ p : Regrown, w'' = Go.Sort.grow (redrawn w2 p.d) p.os := fun d os => Calls.regrown_of (HD.out _ ((HT.below b2).below (below_regrown w2 d os)))
    have kM : ∀ d os, Calls Tryd.prog 17 #[.string ⟨⟨k⟩⟩, .string ⟨⟨h⟩⟩] (Go.Sort.grow (redrawn w2 d) os) fun e w'' => e = .returned (.string ⟨⟨m⟩⟩) ∧ ∃ p : Regrown, w'' = Go.Sort.grow (redrawn w2 p.d) p.os := fun d os => Calls.regrown_of (HM.out _ ((HT.below b2).below (below_regrown w2 d os)))
    clear hb2 b1 HD HM HS HW htm
    go_wp2_with fail
    refine wp_region_quiet_below (by kernel_rfl) (by kernel_rfl) ?_
    repeat (quiet_step (first | exact kD _ _ | exact kM _ _))
    refine wpQuiet_nil ?_
    intro _ hw'
    obtain ⟨⟨dq, osq⟩, hw''⟩ := hw'
    subst hw''
    have b3 : Below w.heap.size w (Go.Sort.grow (redrawn w2 dq) osq) := b2.trans ((below_regrown w2 dq osq).mono b2.size)
    clear kD kM b2
    generalize Go.Sort.grow (redrawn w2 dq) osq = w3 at *
    go_wp2_with fail
    refine (HO.out w3 (HT.below b3)).mono ?_
    rintro _ w4 ⟨rfl, hb4⟩
    have b4 := b3.trans (hb4.mono b3.size)
    clear hb4 b3
    go_wp2
    go_ret
    exact ⟨rfl, b4⟩
end Go.Proofs.YtdjehpbkkbahcaaDoor

/- SealNonce's walk. -/

namespace Go.Proofs.YtdjehpbkkbahcaaDoor
open Go.RowKit

set_option maxRecDepth 100000 in
theorem sealNonce_no (b o p x y : List UInt8) (n : Int) (w : World) (HT : Tabs w) (HW : Hid WorksS) (h : 500 < b.length ∨ o.length ≠ 12 ∨ p.length ≠ 12 ∨ 500 < x.length ∨ 500 < y.length) :
    Calls Tryd.prog 7 #[.string ⟨⟨b⟩⟩, .int .i64 n, .string ⟨⟨o⟩⟩, .string ⟨⟨p⟩⟩, .string ⟨⟨x⟩⟩, .string ⟨⟨y⟩⟩] w fun e w' => e = .returned (.bool true) ∧ Below w.heap.size w w' := by
  by_cases h1 : 500 < b.length
  · have k1 : (500 : Int) < (b.length : Int) := by omega
    clear h h1
    go_enter Tryd.func7, Tryd.ntmps7
    go_wp2_with fail
    refine (HW.out w HT).mono ?_
    rintro _ w1 ⟨rfl, b1⟩
    go_wp2
    go_ret
    exact ⟨rfl, b1⟩
  · have k1 : ¬ (500 : Int) < (b.length : Int) := by omega
    by_cases h2 : o.length = 12
    · obtain ⟨o1, o2, o3, o4⟩ := len_true h2
      by_cases h3 : p.length = 12
      · obtain ⟨p1, p2, p3, p4⟩ := len_true h3
        simp only [Int.cast_ofNat_Int] at o1 o3 p1 p3
        by_cases h4 : 500 < x.length
        · have k4 : (500 : Int) < (x.length : Int) := by omega
          clear h h1 h2 h3 h4
          go_enter Tryd.func7, Tryd.ntmps7
          go_wp2_with fail
          refine (HW.out w HT).mono ?_
          rintro _ w1 ⟨rfl, b1⟩
          go_wp2
          go_ret
          exact ⟨rfl, b1⟩
        · have k4 : ¬ (500 : Int) < (x.length : Int) := by omega
          have k5 : (500 : Int) < (y.length : Int) := by omega
          clear h h1 h2 h3 h4
          go_enter Tryd.func7, Tryd.ntmps7
          go_wp2_with fail
          refine (HW.out w HT).mono ?_
          rintro _ w1 ⟨rfl, b1⟩
          go_wp2
          go_ret
          exact ⟨rfl, b1⟩
      · obtain ⟨p1, p2, p3, p4⟩ := len_false h3
        simp only [Int.cast_ofNat_Int] at o1 o3 p1 p3
        clear h h1 h2 h3
        go_enter Tryd.func7, Tryd.ntmps7
        go_wp2_with fail
        refine (HW.out w HT).mono ?_
        rintro _ w1 ⟨rfl, b1⟩
        go_wp2
        go_ret
        exact ⟨rfl, b1⟩
    · obtain ⟨o1, o2, o3, o4⟩ := len_false h2
      simp only [Int.cast_ofNat_Int] at o1 o3
      clear h h1 h2
      go_enter Tryd.func7, Tryd.ntmps7
      go_wp2_with fail
      refine (HW.out w HT).mono ?_
      rintro _ w1 ⟨rfl, b1⟩
      go_wp2
      go_ret
      exact ⟨rfl, b1⟩

theorem byte_beq (a b : UInt8) : (((a.toNat : Nat) : Int) == ((b.toNat : Nat) : Int)) = (a == b) := by
  rw [Bool.eq_iff_iff, beq_iff_eq, beq_iff_eq]
  constructor
  · intro h
    exact UInt8.toNat_inj.1 (by omega)
  · rintro rfl
    rfl

set_option maxRecDepth 100000 in
set_option maxHeartbeats 1000000 in
theorem sealNonce_yes (b o p x y s t u : List UInt8) (n : Int) (w : World) (HT : Tabs w) (HW : Hid WorksS) (hb : b.length ≤ 500) (ho : o.length = 12) (hp : p.length = 12) (hx : x.length ≤ 500) (hy : y.length ≤ 500)
    (HS : Hid (SealIs b n o x s 0)) (HU : Hid (SealIs b n o y t 0)) (HV : Hid (SealIs b n p x u 0)) (hs : s.length = x.length + 44) (ht : t.length = y.length + 44) (hsu : (s == u) = (o == p))
    (hat : Hid (∀ i, i < x.length → i < y.length → (s.getD (12 + i) 0 = t.getD (12 + i) 0 ↔ x.getD i 0 = y.getD i 0))) :
    Calls Tryd.prog 7 #[.string ⟨⟨b⟩⟩, .int .i64 n, .string ⟨⟨o⟩⟩, .string ⟨⟨p⟩⟩, .string ⟨⟨x⟩⟩, .string ⟨⟨y⟩⟩] w fun e w' => e = .returned (.bool true) ∧ Below w.heap.size w w' := by
  have k1 : ¬ (500 : Int) < (b.length : Int) := by omega
  have k4 : ¬ (500 : Int) < (x.length : Int) := by omega
  have k5 : ¬ (500 : Int) < (y.length : Int) := by omega
  obtain ⟨o1, o2, o3, o4⟩ := len_true ho
  obtain ⟨p1, p2, p3, p4⟩ := len_true hp
  simp only [Int.cast_ofNat_Int] at o1 o3 p1 p3
  obtain ⟨r, hr⟩ : ∃ r, (o == p) = r := ⟨_, rfl⟩
  rw [hr] at hsu
  have hrr : (r != r) = false := by simp
  have HL := Lib.hid hs
  have HLT := Lib.hid ht
  have HX := Lib.hid hx
  have HY := Lib.hid hy
  clear hb ho hp hx hy hs ht
  go_enter Tryd.func7, Tryd.ntmps7
  go_wp2_with fail
  refine (HW.out w HT).mono ?_
  rintro _ w1 ⟨rfl, b1⟩
  go_wp2_with fail
  refine (HS.out w1 (HT.below b1)).mono ?_
  rintro _ w2 ⟨rfl, hb2⟩
  have b2 := b1.trans (hb2.mono b1.size)
  clear hb2 b1
  go_wp2_with fail
  refine (HU.out w2 (HT.below b2)).mono ?_
  rintro _ w3 ⟨rfl, hb3⟩
  have b3 := b2.trans (hb3.mono b2.size)
  clear hb3 b2
  go_wp2_with fail
  refine (HV.out w3 (HT.below b3)).mono ?_
  rintro _ w4 ⟨rfl, hb4⟩
  have b4 := b3.trans (hb4.mono b3.size)
  clear hb4 b3 HS HU HV HW
  go_wp2
  go_loopw [20] (fun i wr => ∃ k : Nat, k ≤ x.length ∧ k ≤ y.length ∧ i = .int .i64 (k : Nat) ∧ Below w.heap.size w wr) (fun i _ => x.length - (intOf i).toNat)
  case atStart => exact ⟨0, by omega, by omega, rfl, b4⟩
  case round =>
    obtain ⟨k, hkx, hky, rfl, hb⟩ := hrel
    clear b4
    by_cases hlx : k < x.length
    · by_cases hly : k < y.length
      · obtain ⟨j, hj⟩ : ∃ j : Nat, j = 12 + k := ⟨_, rfl⟩
        have hls : j < s.length := by have := HL.out; omega
        have hlt : j < t.length := by have := HLT.out; omega
        have q0 := byte_at x k hlx
        have q1 := byte_at y k hly
        have q2 := byte_at s j hls
        have q3 := byte_at t j hlt
        have hq : (s[j] == t[j]) = (x[k] == y[k]) := by
          have := hat.out k hlx hly
          rw [← hj, getD_get s j hls, getD_get t j hlt, getD_get x k hlx, getD_get y k hly] at this
          rw [Bool.eq_iff_iff, beq_iff_eq, beq_iff_eq]
          exact this
        have v0 := byte_beq x[k] y[k]
        have v1 := byte_beq s[j] t[j]
        rw [hq] at v1
        obtain ⟨c, hc⟩ : ∃ c, (x[k] == y[k]) = c := ⟨_, rfl⟩
        rw [hc] at v0 v1
        have hcc : (c != c) = false := by simp
        have e0 : 12 + (k : Int) = (j : Int) := by omega
        have f1 : IntKind.i64.wrap (j : Int) = (j : Int) := by rw [IntKind.wrap_i64]; have := HX.out; omega
        have l0 : (k : Int) < x.length := by omega
        have l1 : (k : Int) < y.length := by omega
        have l2 : (j : Int) < s.length := by omega
        have l3 : (j : Int) < t.length := by omega
        have HJ := Lib.hid hj
        clear hq hc hj
        generalize x[k] = x0 at *
        generalize y[k] = y0 at *
        generalize s[j] = s0 at *
        generalize t[j] = t0 at *
        go_wp2
        go_quiet (fail)
        go_wp2
        go_roundw
        case rel => exact ⟨k + 1, by omega, by omega, by go_num, belowN hb _⟩
        case measure => simp [intOf]; omega
      · have l0 : (k : Int) < x.length := by omega
        have l1 : ¬ (k : Int) < y.length := by omega
        go_wp2
        go_ret
        exact ⟨rfl, hb⟩
    · have l0 : ¬ (k : Int) < x.length := by omega
      go_wp2
      go_ret
      exact ⟨rfl, hb⟩
end Go.Proofs.YtdjehpbkkbahcaaDoor

/- The walks of SealBack, SealEnds, SealNonce at any arguments. -/

namespace Go.Proofs.YtdjehpbkkbahcaaDoor
open Go.RowKit

theorem openBack (b o x : List UInt8) (n : Int) (hb : b.length ≤ 10000) (ho : o.length = 12) (hx : x.length ≤ 8000) : OpenIs b n (Sl.sld b n o x) x 0 := by
  have h := openIs b (Sl.sld b n o x) n hb (by rw [Sl.sld_length b n ho (by omega)]; omega)
  rw [Sl.opn_back b n ho (by omega)] at h
  exact h
theorem openShort (b s : List UInt8) (n : Int) (hs : s.length < 44) : OpenIs b n s [] 10 := slOpen_no b s n 10 (by decide) (Lib.hid (wrong_short b s n hs))
theorem check_own (b x m : List UInt8) (n : Int) (hm : Sl.chk b n x = m) (w : World) (HT : Tabs w) (hb : b.length ≤ 10000) (hx : x.length ≤ 10000) :
    Calls Tryd.prog 16 #[.string ⟨⟨b⟩⟩, .int .i64 n, .string ⟨⟨x⟩⟩, .string ⟨⟨m⟩⟩] w fun e w' => e = .returned (.int .i64 0) ∧ Below w.heap.size w w' := by
  have h := slCheck_any b x m n w HT hb hx
  rw [hm, chkNo, if_pos rfl] at h
  exact h
theorem worksS_any : WorksS := fun w HT =>
  worksS_by (Sl.sld [107] 1 [48, 49, 50, 51, 52, 53, 54, 55, 56, 57, 97, 98] []) (Sl.chk [107] 1 [97]) w HT (Sl.sld_length _ _ rfl (by decide))
    (Lib.hid fun w h => sealIs [107] [48, 49, 50, 51, 52, 53, 54, 55, 56, 57, 97, 98] [] 1 (by decide) rfl (by decide) w h)
    (Lib.hid fun w h => openBack [107] [48, 49, 50, 51, 52, 53, 54, 55, 56, 57, 97, 98] [] 1 (by decide) rfl (by decide) w h)
    (Lib.hid fun w h => openShort [107] [120] 1 (by decide) w h)
    (Lib.hid fun w h => chkIs [107] [97] 1 (by decide) (by decide) w h)
    (Lib.hid fun w h => check_own [107] [97] _ 1 rfl w h (by decide) (by decide))

theorem sealBack_walk (b o x : List UInt8) (n : Int) (w : World) (HT : Tabs w) :
    Calls Tryd.prog 5 #[.string ⟨⟨b⟩⟩, .int .i64 n, .string ⟨⟨o⟩⟩, .string ⟨⟨x⟩⟩] w fun e w' => e = .returned (.bool true) ∧ Below w.heap.size w w' := by
  have HW := Lib.hid worksS_any
  by_cases h1 : b.length ≤ 1000
  · by_cases h2 : x.length ≤ 2000
    · by_cases h3 : o.length = 12
      · exact sealBack_d b o x (Sl.sld b n o x) n w HT HW h1 h2 h3 (Lib.hid (sealIs b o x n (by omega) h3 (by omega))) (Lib.hid (openBack b o x n (by omega) h3 (by omega))) (Sl.sld_length b n h3 (by omega)) (Sl.sld_nonce b n h3)
      · exact sealBack_c b o x n w HT HW h1 h2 h3
    · exact sealBack_b b o x n w HT HW h1 (by omega)
  · exact sealBack_a b o x n w HT HW (by omega)

theorem sealEnds_walk (b o x t : List UInt8) (n : Int) (w : World) (HT : Tabs w) :
    Calls Tryd.prog 6 #[.string ⟨⟨b⟩⟩, .int .i64 n, .string ⟨⟨o⟩⟩, .string ⟨⟨x⟩⟩, .string ⟨⟨t⟩⟩] w fun e w' => e = .returned (.bool true) ∧ Below w.heap.size w w' := by
  have HW := Lib.hid worksS_any
  by_cases h : 1000 < b.length ∨ 2000 < x.length ∨ t.length ≠ 32 ∨ o.length ≠ 12
  · exact sealEnds_no b o x t n w HT HW h
  · have h1 : b.length ≤ 1000 := by omega
    have h2 : x.length ≤ 2000 := by omega
    have h3 : t.length = 32 := by omega
    have h4 : o.length = 12 := by omega
    clear h
    have hl := Sl.hd_length b n (x := x) h4 (by omega)
    have HO := openIs b (Sl.hd b n o x ++ t) n (by omega) (by rw [List.length_append]; omega)
    rw [Sl.opn_head b n h4 (by omega) h3] at HO
    refine sealEnds_yes b o x t _ (Sl.sk b n) (Sl.hd b n o x) (Sl.mc b n (Sl.hd b n o x)) n _ w HT HW h1 h2 h3 h4 hl (Sl.mc_length _ _ _) (Lib.hid (sealIs b o x n (by omega) h4 (by omega))) (Lib.hid fun w h => dSum_any b n w h (by omega)) (Lib.hid (macIs _ _ (by rw [Sl.sk_length]; decide) (by omega))) (Lib.hid HO) ?_
    by_cases ht : t = Sl.mc b n (Sl.hd b n o x)
    · rw [if_pos ht, if_pos ht.symm]
      exact ⟨rfl, rfl⟩
    · rw [if_neg ht, if_neg (fun e => ht e.symm)]
      exact ⟨rfl, rfl⟩

theorem sealNonce_walk (b o p x y : List UInt8) (n : Int) (w : World) (HT : Tabs w) :
    Calls Tryd.prog 7 #[.string ⟨⟨b⟩⟩, .int .i64 n, .string ⟨⟨o⟩⟩, .string ⟨⟨p⟩⟩, .string ⟨⟨x⟩⟩, .string ⟨⟨y⟩⟩] w fun e w' => e = .returned (.bool true) ∧ Below w.heap.size w w' := by
  have HW := Lib.hid worksS_any
  by_cases h : 500 < b.length ∨ o.length ≠ 12 ∨ p.length ≠ 12 ∨ 500 < x.length ∨ 500 < y.length
  · exact sealNonce_no b o p x y n w HT HW h
  · have h1 : b.length ≤ 500 := by omega
    have h2 : o.length = 12 := by omega
    have h3 : p.length = 12 := by omega
    have h4 : x.length ≤ 500 := by omega
    have h5 : y.length ≤ 500 := by omega
    clear h
    refine sealNonce_yes b o p x y (Sl.sld b n o x) (Sl.sld b n o y) (Sl.sld b n p x) n w HT HW h1 h2 h3 h4 h5 (Lib.hid (sealIs b o x n (by omega) h2 (by omega))) (Lib.hid (sealIs b o y n (by omega) h2 (by omega))) (Lib.hid (sealIs b p x n (by omega) h3 (by omega))) (Sl.sld_length b n h2 (by omega)) (Sl.sld_length b n h2 (by omega)) ?_ (Lib.hid fun i hi hj => Sl.sld_alike b n h2 (by omega) (by omega) hi hj)
    rw [Bool.eq_iff_iff, beq_iff_eq, beq_iff_eq]
    exact Sl.sld_iff b n h2 h3
end Go.Proofs.YtdjehpbkkbahcaaDoor

