/- The program's seal at any arguments; works. -/
import Derived.Test.YtdjehpbkkbahcaaDoorSlW1
import Derived.Test.YtdjehpbkkbahcaaDoorDeW3
import Derived.Test.YtdjehpbkkbahcaaDoorCtW4
import Derived.Test.YtdjehpbkkbahcaaDoorHmW1
namespace Go.Proofs.YtdjehpbkkbahcaaDoor
open Go.RowKit

theorem cipIs (b o x : List UInt8) (n : Int) (hb : b.length ≤ 10000) : CipIs b n o x (Sl.cip b n o x) :=
  ciphered_by b (Sl.ck b n) o x _ n (Lib.hid fun w h => dCipher_any b n w h hb) (Lib.hid fun w => Cipher_any (Sl.ck b n) o x w)
theorem smIs (b s : List UInt8) (n : Int) (hb : b.length ≤ 10000) (hs : s.length ≤ 10000) : SmIs b n s (Sl.mc b n s) :=
  sealSum_by b (Sl.sk b n) s _ n (Lib.hid fun w h => dSum_any b n w h hb) (Lib.hid (macIs (Sl.sk b n) s (by rw [Sl.sk_length]; decide) hs))
theorem chkIs (b x : List UInt8) (n : Int) (hb : b.length ≤ 10000) (hx : x.length ≤ 10000) : ChkIs b n x (Sl.chk b n x) :=
  slSum_by b _ x _ n (Lib.hid (keyIs b [99, 104, 101, 99, 107] n hb (by decide))) (Lib.hid (macIs _ x (by rw [De.key_length]; decide) hx))
theorem equIs (a c : List UInt8) (h : a.length = 32) : EquIs a c (decide (a = c)) := fun w => Equal_any a c w (by omega)
theorem slCheck_any (b x s : List UInt8) (n : Int) (w : World) (HT : Tabs w) (hb : b.length ≤ 10000) (hx : x.length ≤ 10000) :
    Calls Tryd.prog 16 #[.string ⟨⟨b⟩⟩, .int .i64 n, .string ⟨⟨x⟩⟩, .string ⟨⟨s⟩⟩] w fun e w' => e = .returned (.int .i64 (chkNo (Sl.chk b n x) s)) ∧ Below w.heap.size w w' :=
  slCheck_by b x _ s n w HT (Lib.hid (chkIs b x n hb hx)) (Lib.hid (equIs _ s (Sl.chk_length _ _ _)))
theorem sealIs (b o x : List UInt8) (n : Int) (hb : b.length ≤ 10000) (ho : o.length = 12) (hx : x.length ≤ 9000) : SealIs b n o x (Sl.sld b n o x) 0 := by
  have hc := Sl.cip_le b n o x
  exact slSeal_by b o x (Sl.cip b n o x) _ n ho (by omega) (by omega) (Nat.le_of_eq (Sl.mc_length _ _ _)) (Lib.hid (cipIs b o x n hb)) (Lib.hid (smIs b _ n hb (by rw [List.length_append]; omega)))
theorem openIs (b s : List UInt8) (n : Int) (hb : b.length ≤ 10000) (hs : s.length ≤ 9000) : OpenIs b n s (Sl.opn b n s).1 ((Sl.opn b n s).2 : Nat) := by
  by_cases h : s.length < 44
  · rw [Sl.opn, if_pos h]
    exact slOpen_no b s n 10 (by decide) (Lib.hid (wrong_short b s n h))
  · have h44 : 44 ≤ s.length := by omega
    have HS := smIs b (s.take (s.length - 32)) n hb (by rw [List.length_take]; omega)
    have HE := equIs (Sl.mc b n (s.take (s.length - 32))) (s.drop (s.length - 32)) (Sl.mc_length _ _ _)
    rw [Sl.opn, if_neg h]
    by_cases h2 : Sl.mc b n (s.take (s.length - 32)) = s.drop (s.length - 32)
    · rw [if_pos h2]
      rw [decide_eq_true h2] at HE
      exact slOpen_by b s _ n h44 (by omega) (Lib.hid (wrong_ok b s n h44 (by omega) (Lib.hid (holds_by b s _ n true h44 (by omega) (Lib.hid HS) (Lib.hid HE))))) (Lib.hid (cipIs b _ _ n hb))
    · rw [if_neg h2]
      rw [decide_eq_false h2] at HE
      exact slOpen_no b s n 20 (by decide) (Lib.hid (wrong_bad b s n h44 (by omega) (Lib.hid (holds_by b s _ n false h44 (by omega) (Lib.hid HS) (Lib.hid HE)))))
end Go.Proofs.YtdjehpbkkbahcaaDoor
