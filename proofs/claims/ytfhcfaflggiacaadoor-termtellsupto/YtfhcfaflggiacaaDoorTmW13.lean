/- works. -/
import Derived.Test.YtfhcfaflggiacaaDoorTmW12
import Derived.Test.YtfhcfaflggiacaaDoorTmW9
import Derived.Test.YtfhcfaflggiacaaDoorTmW8
import Derived.Test.YtfhcfaflggiacaaDoorTmW6
import Derived.Test.YtfhcfaflggiacaaDoorTmW2
namespace Go.Proofs.YtfhcfaflggiacaaDoor
open Go.RowKit
open Tt

theorem TabB.up {w W : World} (h : TabB w.heap.size w) (hb : Below w.heap.size w W) : TabB W.heap.size W := fun w' h' => h w' (hb.trans (h'.mono hb.size))
theorem rep_flat (w : World) (S : Nat → Prop) (k : Int) (s : List UInt8) (n : Int) (hn : InR n) : Rep w S (.mk k s n []) (.agg #[.int .i64 k, .string ⟨⟨s⟩⟩, .int .i64 n, .slice none 0 0]) :=
  rep_mk.2 ⟨none, 0, rfl, hn, .inl rfl⟩

theorem NewRow.form {S : Nat → Prop} {m : Nat} {w' : World} {l : List Tm} {u : Value} (h : NewRow S m w' l u) (hS : ∀ b, S b → b < w'.heap.size) : ∃ g, u = .slice (some ⟨g, 0, none⟩) l.length l.length ∧ TRow w' (Lo w') l (some ⟨g, 0, none⟩) := by
  have hr := h.rep hS 0 [] 0 ⟨by omega, by omega⟩
  obtain ⟨g, xs, rfl, -, -, -⟩ := h
  obtain ⟨A, ca, hv, -, hrow⟩ := rep_mk.1 hr
  injection hv with hv
  simp at hv
  refine ⟨g, rfl, ?_⟩
  rw [hv.1]; exact hrow

/-- The document's example. -/
def exT : Tm := .mk 4 [] 2 [.mk 2 [97, 110, 110] 1 [], .mk 3 [] 0 [.mk 0 [120] 0 [], .mk 1 [] (-3) []]]
def exU : Tm := .mk 5 [] 3 [.mk 2 [] 2 [], .mk 1 [] 0 []]
theorem exT_text : text exT = [115, 101, 97, 108, 40, 107, 101, 121, 40, 97, 110, 110, 32, 49, 41, 32, 50, 32, 91, 120, 32, 45, 51, 93, 41] := by decide +kernel
theorem exU_text : text exU = [115, 117, 109, 40, 107, 101, 121, 40, 32, 50, 41, 32, 51, 32, 48, 41] := by decide +kernel
theorem exT_vld : vld 0 exT = true := by decide +kernel
theorem exT_sz : sz exT = 5 := by decide +kernel
theorem exT_ord : ord exT exT = 0 := by decide +kernel
theorem ex_ord : ord (.mk 1 [] 1 []) (.mk 1 [] 2 []) = -1 := by decide +kernel
theorem ex_name : isName [97, 45, 49] = true := by decide +kernel

set_option maxHeartbeats 4000000 in
set_option maxRecDepth 100000 in
theorem works_any (w : World) (htab : TabB w.heap.size w) :
    Calls Tryd.prog 10 #[] w fun e w' => e = .returned (.bool true) ∧ Below w.heap.size w w' := by
  have HT := Lib.hid htab
  clear htab
  have I1 : InR 1 := ⟨by omega, by omega⟩
  have I2 : InR 2 := ⟨by omega, by omega⟩
  have I3 : InR (-3) := ⟨by omega, by omega⟩
  have I0 : InR 0 := ⟨by omega, by omega⟩
  go_enter Tryd.func10, Tryd.ntmps10
  go_wp2_with fail
  refine (Key_any [97, 110, 110] 1 _).mono ?_
  rintro _ w1 ⟨rfl, b1⟩
  have HB1 := Lib.hid b1
  clear b1
  go_wp2_with fail
  refine (Of_any [120] _).mono ?_
  rintro _ w2 ⟨rfl, b2⟩
  have HB2 : Hid (Below w.heap.size w w2) := HB1.out.trans (b2.mono HB1.out.size)
  clear b2 HB1
  go_wp2_with fail
  refine (Num_any (-3) _).mono ?_
  rintro _ w3 ⟨rfl, b3⟩
  have HB3 : Hid (Below w.heap.size w w3) := HB2.out.trans (b3.mono HB2.out.size)
  clear b3 HB2
  go_wp2_with fail
  have hlr := lrow_two (w := w3) (rep_flat w3 (Lo w3) 0 [120] 0 I0) (rep_flat w3 (Lo w3) 1 [] (-3) I3) (fun _ h => h) 25
  have b4 : Below w3.heap.size w3 (w3.alloc (.cells #[.int .i64 0, .string ⟨#[120]⟩, .int .i64 0, .slice none 0 0, .int .i64 1, .string ⟨#[]⟩, .int .i64 (-3), .slice none 0 0] 25)) := (Below.refl _ _).alloc (Nat.le_refl _) _
  refine (List_any [.mk 0 [120] 0 [], .mk 1 [] (-3) []] _ 2 _ _ (by simp) hlr (fun b hb => Nat.lt_of_lt_of_le hb b4.size)).mono ?_
  rintro _ w5 ⟨u5, rfl, b5, hnr⟩
  have hS5 : ∀ b, Lo w3 b → b < w5.heap.size := fun b hb => Nat.lt_of_lt_of_le hb (Nat.le_trans b4.size b5.size)
  have R5 := hnr.rep hS5 3 [] 0 I0
  have HB5 : Hid (Below w.heap.size w w5) := HB3.out.trans ((b4.trans (b5.mono b4.size)).mono HB3.out.size)
  obtain ⟨g5, xs5, rfl, -, -, -⟩ := hnr
  have HS := Lib.hid (Seal_any _ _ _ _ 2 (Lo w5) w5 (rep_flat w5 (Lo w5) 2 [97, 110, 110] 1 I1) R5 (fun _ h => h))
  clear hlr b4 b5 hS5 R5 HB3
  go_wp2_with fail
  refine HS.out.mono ?_
  rintro _ w6 ⟨u6, rfl, b6, hnr6⟩
  have R6 : Rep w6 (Lo w6) exT _ := hnr6.rep (fun b hb => Nat.lt_of_lt_of_le hb b6.size) 4 [] 2 I2
  have HB6 : Hid (Below w.heap.size w w6) := HB5.out.trans (b6.mono HB5.out.size)
  obtain ⟨g6, xs6, rfl, -, -, -⟩ := hnr6
  have HR6 := Lib.hid R6
  clear b6 R6 HB5 HS
  have b7 : Below w6.heap.size w6 (w6.alloc (.cells #[.int .i64 4, .string ⟨#[]⟩, .int .i64 2, .slice (some ⟨g6, 0, none⟩) 2 2] 25)) := (Below.refl _ _).alloc (Nat.le_refl _) _
  have hg7 := heap_alloc_new w6 (.cells #[.int .i64 4, .string ⟨#[]⟩, .int .i64 2, .slice (some ⟨g6, 0, none⟩) 2 2] 25)
  obtain ⟨z, hz⟩ : ∃ z, z = w6.heap.size := ⟨_, rfl⟩
  obtain ⟨w7, hw7⟩ : ∃ w7, w7 = w6.alloc (.cells #[.int .i64 4, .string ⟨#[]⟩, .int .i64 2, .slice (some ⟨g6, 0, none⟩) 2 2] 25) := ⟨_, rfl⟩
  rw [← hw7, ← hz] at hg7
  rw [← hw7] at b7
  have hsr : SRow (w7.alloc (.cells #[.string ⟨#[97]⟩, .string ⟨#[98]⟩] 9)) [[97], [98]] (some ⟨w7.heap.size, 0, none⟩) := by
    refine .inr ⟨w7.heap.size, 0, rfl, by simp, fun i hi => ?_⟩
    rw [Nat.zero_add, cell_of_row _ _ _ _ _ _ (heap_alloc_new w7 _)]
    match i, hi with
    | 0, _ => rfl
    | 1, _ => rfl
  have b8 : Below w7.heap.size w7 (w7.alloc (.cells #[.string ⟨#[97]⟩, .string ⟨#[98]⟩] 9)) := (Below.refl _ _).alloc (Nat.le_refl _) _
  have hs7 : w7.heap.size = z + 1 := by rw [hw7, hz]; simp
  have hRow := Row_any [[97], [98]] _ 2 _ (by simp) hsr
  rw [hs7] at hRow
  have HRow := Lib.hid hRow
  have HB7 : Hid (Below w.heap.size w w7) := HB6.out.trans (b7.mono HB6.out.size)
  have HR7 := Lib.hid (HR6.out.lo b7)
  have HG7 := Lib.hid hg7
  have HB8 := Lib.hid b8
  have HW7 := Lib.hid hw7
  have HZ := Lib.hid hz
  clear hsr b8 b7 hg7 hw7 hz HR6 HB6 hRow hs7
  go_wp2_with fail
  rw [← HW7.out, ← HZ.out]
  refine HRow.out.mono ?_
  rintro _ w9 ⟨u9, rfl, b9, hnr9⟩
  have h79 : Below w7.heap.size w7 w9 := HB8.out.trans (b9.mono HB8.out.size)
  obtain ⟨g9, rfl, hrow9⟩ := hnr9.form (fun _ h => h.elim)
  have hall : (List.map nm [[97], [98]]).all (fun p => decide (p.k = 0)) = true := rfl
  have HN := Lib.hid (NamesY_any [] 0 (List.map nm [[97], [98]]) _ 2 (Lo w9) w9 hrow9 (fun _ h => h) (by simp) hall)
  have H79 := Lib.hid h79
  clear hrow9 b9 h79 HRow HB8 hnr9 hall
  go_wp2_with fail
  refine HN.out.mono ?_
  rintro _ w10 ⟨u10, rfl, hns, b10⟩
  obtain ⟨g10, rfl, -, -⟩ := hns
  have H710 : Hid (Below w7.heap.size w7 w10) := H79.out.trans (b10.mono H79.out.size)
  clear b10 HN H79
  have hg10 := (H710.out.block z (Array.getElem?_eq_some_iff.1 HG7.out).1).trans HG7.out
  obtain ⟨c0, c1, c2, c3⟩ := cell4 hg10
  have HTx := Lib.hid (Text_any exT (Lo w10) _ w10 (by rw [exT_sz]; omega) (HR7.out.lo H710.out) (fun _ h => h) (by rw [exT_text]; simp) ((HT.out.up HB7.out).up H710.out))
  rw [exT_text] at HTx
  clear hg10
  go_wp2_with fail
  refine HTx.out.mono ?_
  rintro _ w11 ⟨rfl, b11⟩
  have H711 : Hid (Below w7.heap.size w7 w11) := H710.out.trans (b11.mono H710.out.size)
  clear b11 H710 HTx
  clear c0 c1 c2 c3
  have hg11 := (H711.out.block z (Array.getElem?_eq_some_iff.1 HG7.out).1).trans HG7.out
  obtain ⟨c0, c1, c2, c3⟩ := cell4 hg11
  clear hg11
  have hV := Valid_any exT (Lo w11) _ w11 (by rw [exT_sz]; omega) (HR7.out.lo H711.out) (fun _ h => h)
  rw [exT_vld] at hV
  have HV := Lib.hid hV
  clear hV
  go_wp2_with fail
  refine HV.out.mono ?_
  rintro _ w12 ⟨rfl, b12⟩
  have H712 : Hid (Below w7.heap.size w7 w12) := H711.out.trans (b12.mono H711.out.size)
  clear b12 H711 HV
  clear c0 c1 c2 c3
  have hg12 := (H712.out.block z (Array.getElem?_eq_some_iff.1 HG7.out).1).trans HG7.out
  obtain ⟨c0, c1, c2, c3⟩ := cell4 hg12
  clear hg12
  have hZ := Size_any exT (Lo w12) _ w12 (by rw [exT_sz]; omega) (HR7.out.lo H712.out) (fun _ h => h)
  rw [exT_sz] at hZ
  have HZZ := Lib.hid hZ
  clear hZ
  go_wp2_with fail
  refine HZZ.out.mono ?_
  rintro _ w13 ⟨rfl, b13⟩
  have H713 : Hid (Below w7.heap.size w7 w13) := H712.out.trans (b13.mono H712.out.size)
  clear b13 H712 HZZ
  clear c0 c1 c2 c3
  have hg13 := (H713.out.block z (Array.getElem?_eq_some_iff.1 HG7.out).1).trans HG7.out
  obtain ⟨c0, c1, c2, c3⟩ := cell4 hg13
  clear hg13
  have hM := Same_any exT exT (Lo w13) _ _ w13 (by rw [exT_sz]; omega) (HR7.out.lo H713.out) (HR7.out.lo H713.out) (fun _ h => h)
  rw [exT_ord, show decide ((0 : Int) = 0) = true from rfl] at hM
  have HM := Lib.hid hM
  clear hM
  go_wp2_with fail
  refine HM.out.mono ?_
  rintro _ w14 ⟨rfl, b14⟩
  have H714 : Hid (Below w7.heap.size w7 w14) := H713.out.trans (b14.mono H713.out.size)
  clear b14 H713 HM
  clear c0 c1 c2 c3
  have hg14 := (H714.out.block z (Array.getElem?_eq_some_iff.1 HG7.out).1).trans HG7.out
  obtain ⟨c0, c1, c2, c3⟩ := cell4 hg14
  clear hg14
  have hNm := Name_any [97, 45, 49] w14
  rw [ex_name] at hNm
  have HNm := Lib.hid hNm
  clear hNm
  go_wp2_with fail
  refine HNm.out.mono ?_
  rintro _ _ ⟨rfl, rfl⟩
  clear HNm
  go_wp2_with fail
  refine (Num_any 1 _).mono ?_
  rintro _ w15 ⟨rfl, b15⟩
  have H715 : Hid (Below w7.heap.size w7 w15) := H714.out.trans (b15.mono H714.out.size)
  clear b15 H714 
  go_wp2_with fail
  refine (Num_any 2 _).mono ?_
  rintro _ w16 ⟨rfl, b16⟩
  have H716 : Hid (Below w7.heap.size w7 w16) := H715.out.trans (b16.mono H715.out.size)
  clear b16 H715 
  clear c0 c1 c2 c3
  have hg16 := (H716.out.block z (Array.getElem?_eq_some_iff.1 HG7.out).1).trans HG7.out
  obtain ⟨c0, c1, c2, c3⟩ := cell4 hg16
  clear hg16
  have hO := Order_any (.mk 1 [] 1 []) (.mk 1 [] 2 []) (Lo w16) _ _ w16 (by simp [sz, szs]) (rep_flat w16 _ 1 [] 1 I1) (rep_flat w16 _ 1 [] 2 I2) (fun _ h => h)
  rw [ex_ord] at hO
  have HO := Lib.hid hO
  clear hO
  go_wp2_with fail
  refine HO.out.mono ?_
  rintro _ w17 ⟨rfl, b17⟩
  have H717 : Hid (Below w7.heap.size w7 w17) := H716.out.trans (b17.mono H716.out.size)
  clear b17 H716 HO
  clear c0 c1 c2 c3
  have hg17 := (H717.out.block z (Array.getElem?_eq_some_iff.1 HG7.out).1).trans HG7.out
  obtain ⟨c0, c1, c2, c3⟩ := cell4 hg17
  clear hg17
  have hP := Parts_any exT (Lo w17) _ w17 (by rw [exT_sz]; omega) (HR7.out.lo H717.out) (fun _ h => h)
  rw [exT_sz] at hP
  have HP := Lib.hid hP
  clear hP
  go_wp2_with fail
  refine HP.out.mono ?_
  rintro _ w18 ⟨A18, c18, rfl, -, b18⟩
  have H718 : Hid (Below w7.heap.size w7 w18) := H717.out.trans (b18.mono H717.out.size)
  clear b18 H717 HP
  go_wp2_with fail
  refine (Key_any [] 2 _).mono ?_
  rintro _ w19 ⟨rfl, b19⟩
  have H719 : Hid (Below w7.heap.size w7 w19) := H718.out.trans (b19.mono H718.out.size)
  clear b19 H718 
  go_wp2_with fail
  refine (Num_any 0 _).mono ?_
  rintro _ w20 ⟨rfl, b20⟩
  have H720 : Hid (Below w7.heap.size w7 w20) := H719.out.trans (b20.mono H719.out.size)
  clear b20 H719 
  have HSm := Lib.hid (Sum_any _ _ _ _ 3 (Lo w20) w20 (rep_flat w20 (Lo w20) 2 [] 2 I2) (rep_flat w20 (Lo w20) 1 [] 0 I0) (fun _ h => h))
  go_wp2_with fail
  refine HSm.out.mono ?_
  rintro _ w21 ⟨u21, rfl, b21, hnr21⟩
  have R21 : Rep w21 (Lo w21) exU _ := hnr21.rep (fun b hb => Nat.lt_of_lt_of_le hb b21.size) 5 [] 3 ⟨by omega, by omega⟩
  obtain ⟨g21, xs21, rfl, -, -, -⟩ := hnr21
  have H721 : Hid (Below w7.heap.size w7 w21) := H720.out.trans (b21.mono H720.out.size)
  clear b21 H720 HSm
  have hTu := Text_any exU (Lo w21) _ w21 (by decide) R21 (fun _ h => h) (by rw [exU_text]; simp) ((HT.out.up HB7.out).up H721.out)
  rw [exU_text] at hTu
  have HTu := Lib.hid hTu
  clear hTu R21 c0 c1 c2 c3
  go_wp2_with fail
  refine HTu.out.mono ?_
  rintro _ w22 ⟨rfl, b22⟩
  have H722 : Hid (Below w7.heap.size w7 w22) := H721.out.trans (b22.mono H721.out.size)
  clear b22 H721 HTu
  go_wp2
  go_ret
  exact ⟨rfl, HB7.out.trans (H722.out.mono HB7.out.size)⟩
end Go.Proofs.YtfhcfaflggiacaaDoor
