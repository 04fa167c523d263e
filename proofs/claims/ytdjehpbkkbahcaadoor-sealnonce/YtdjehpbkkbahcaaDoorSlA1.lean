/- The walks of SealBack, SealEnds, SealNonce at any arguments. -/
import Derived.Test.YtdjehpbkkbahcaaDoorSlW2
import Derived.Test.YtdjehpbkkbahcaaDoorSlW3
import Derived.Test.YtdjehpbkkbahcaaDoorSlL2
import Derived.Test.YtdjehpbkkbahcaaDoorSlL3
namespace Go.Proofs.YtdjehpbkkbahcaaDoor
open Go.RowKit

theorem openBack (b o x : List UInt8) (n : Int) (hb : b.length ≤ 10000) (ho : o.length = 12) (hx : x.length ≤ 8000) : OpenIs b n (Sl.sld b n o x) x 0 := by
  have h := openIs b (Sl.sld b n o x) n hb (by rw [Sl.sld_length b n ho (by omega)]; omega)
  rw [Sl.opn_back b n ho (by omega)] at h
  exact h
theorem openShort (b s : List UInt8) (n : Int) (hs : s.length < 44) : OpenIs b n s [] 10 := slOpen_no b s n 10 (by decide) (Lib.hid (wrong_short b s n hs))
theorem check_own (b x m : List UInt8) (n : Int) (hm : Sl.chk b n x = m) (w : World) (HT : Tabs w) (hb : b.length ≤ 10000) (hx : x.length ≤ 10000) :
    Calls Tryd.prog 16 #[.string ⟨⟨b⟩⟩, .int .i64 n, .string ⟨⟨x⟩⟩, .string ⟨⟨m⟩⟩] w fun e w' => e = .returned (.int .i64 0) ∧ Below w.heap.size w w' := by
  have h := slCheck_any b x m n w HT hb hx
  rw [hm, chkNo, if_pos rfl] at h
  exact h
theorem worksS_any : WorksS := fun w HT =>
  worksS_by (Sl.sld [107] 1 [48, 49, 50, 51, 52, 53, 54, 55, 56, 57, 97, 98] []) (Sl.chk [107] 1 [97]) w HT (Sl.sld_length _ _ rfl (by decide))
    (Lib.hid fun w h => sealIs [107] [48, 49, 50, 51, 52, 53, 54, 55, 56, 57, 97, 98] [] 1 (by decide) rfl (by decide) w h)
    (Lib.hid fun w h => openBack [107] [48, 49, 50, 51, 52, 53, 54, 55, 56, 57, 97, 98] [] 1 (by decide) rfl (by decide) w h)
    (Lib.hid fun w h => openShort [107] [120] 1 (by decide) w h)
    (Lib.hid fun w h => chkIs [107] [97] 1 (by decide) (by decide) w h)
    (Lib.hid fun w h => check_own [107] [97] _ 1 rfl w h (by decide) (by decide))

theorem sealBack_walk (b o x : List UInt8) (n : Int) (w : World) (HT : Tabs w) :
    Calls Tryd.prog 5 #[.string ⟨⟨b⟩⟩, .int .i64 n, .string ⟨⟨o⟩⟩, .string ⟨⟨x⟩⟩] w fun e w' => e = .returned (.bool true) ∧ Below w.heap.size w w' := by
  have HW := Lib.hid worksS_any
  by_cases h1 : b.length ≤ 1000
  · by_cases h2 : x.length ≤ 2000
    · by_cases h3 : o.length = 12
      · exact sealBack_d b o x (Sl.sld b n o x) n w HT HW h1 h2 h3 (Lib.hid (sealIs b o x n (by omega) h3 (by omega))) (Lib.hid (openBack b o x n (by omega) h3 (by omega))) (Sl.sld_length b n h3 (by omega)) (Sl.sld_nonce b n h3)
      · exact sealBack_c b o x n w HT HW h1 h2 h3
    · exact sealBack_b b o x n w HT HW h1 (by omega)
  · exact sealBack_a b o x n w HT HW (by omega)

theorem sealEnds_walk (b o x t : List UInt8) (n : Int) (w : World) (HT : Tabs w) :
    Calls Tryd.prog 6 #[.string ⟨⟨b⟩⟩, .int .i64 n, .string ⟨⟨o⟩⟩, .string ⟨⟨x⟩⟩, .string ⟨⟨t⟩⟩] w fun e w' => e = .returned (.bool true) ∧ Below w.heap.size w w' := by
  have HW := Lib.hid worksS_any
  by_cases h : 1000 < b.length ∨ 2000 < x.length ∨ t.length ≠ 32 ∨ o.length ≠ 12
  · exact sealEnds_no b o x t n w HT HW h
  · have h1 : b.length ≤ 1000 := by omega
    have h2 : x.length ≤ 2000 := by omega
    have h3 : t.length = 32 := by omega
    have h4 : o.length = 12 := by omega
    clear h
    have hl := Sl.hd_length b n (x := x) h4 (by omega)
    have HO := openIs b (Sl.hd b n o x ++ t) n (by omega) (by rw [List.length_append]; omega)
    rw [Sl.opn_head b n h4 (by omega) h3] at HO
    refine sealEnds_yes b o x t _ (Sl.sk b n) (Sl.hd b n o x) (Sl.mc b n (Sl.hd b n o x)) n _ w HT HW h1 h2 h3 h4 hl (Sl.mc_length _ _ _) (Lib.hid (sealIs b o x n (by omega) h4 (by omega))) (Lib.hid fun w h => dSum_any b n w h (by omega)) (Lib.hid (macIs _ _ (by rw [Sl.sk_length]; decide) (by omega))) (Lib.hid HO) ?_
    by_cases ht : t = Sl.mc b n (Sl.hd b n o x)
    · rw [if_pos ht, if_pos ht.symm]
      exact ⟨rfl, rfl⟩
    · rw [if_neg ht, if_neg (fun e => ht e.symm)]
      exact ⟨rfl, rfl⟩

theorem sealNonce_walk (b o p x y : List UInt8) (n : Int) (w : World) (HT : Tabs w) :
    Calls Tryd.prog 7 #[.string ⟨⟨b⟩⟩, .int .i64 n, .string ⟨⟨o⟩⟩, .string ⟨⟨p⟩⟩, .string ⟨⟨x⟩⟩, .string ⟨⟨y⟩⟩] w fun e w' => e = .returned (.bool true) ∧ Below w.heap.size w w' := by
  have HW := Lib.hid worksS_any
  by_cases h : 500 < b.length ∨ o.length ≠ 12 ∨ p.length ≠ 12 ∨ 500 < x.length ∨ 500 < y.length
  · exact sealNonce_no b o p x y n w HT HW h
  · have h1 : b.length ≤ 500 := by omega
    have h2 : o.length = 12 := by omega
    have h3 : p.length = 12 := by omega
    have h4 : x.length ≤ 500 := by omega
    have h5 : y.length ≤ 500 := by omega
    clear h
    refine sealNonce_yes b o p x y (Sl.sld b n o x) (Sl.sld b n o y) (Sl.sld b n p x) n w HT HW h1 h2 h3 h4 h5 (Lib.hid (sealIs b o x n (by omega) h2 (by omega))) (Lib.hid (sealIs b o y n (by omega) h2 (by omega))) (Lib.hid (sealIs b p x n (by omega) h3 (by omega))) (Sl.sld_length b n h2 (by omega)) (Sl.sld_length b n h2 (by omega)) ?_ (Lib.hid fun i hi hj => Sl.sld_alike b n h2 (by omega) (by omega) hi hj)
    rw [Bool.eq_iff_iff, beq_iff_eq, beq_iff_eq]
    exact Sl.sld_iff b n h2 h3
end Go.Proofs.YtdjehpbkkbahcaaDoor
