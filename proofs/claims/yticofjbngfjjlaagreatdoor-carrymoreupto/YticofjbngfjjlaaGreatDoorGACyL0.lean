/- The carry law's works, walked. (Laid with NS=1.) -/
import Derived.Test.YticofjbngfjjlaaGreatDoorGACyU18
import Derived.Test.YticofjbngfjjlaaGreatDoorGATmW8
import Derived.Test.YticofjbngfjjlaaGreatDoorGATmPure
import Derived.ProofKit
import Derived.Deep.DeepHandedRow
import Derived.Lib.LaidTab
import Derived.LaidSub
import Derived.Test.YticofjbngfjjlaaGreatDoorGAShaW3
namespace Go.Proofs.YticofjbngfjjlaaGreatDoor.Cy
open Go.RowKit
open Te Te.Tt
open Wi.Wr (It wr wrs)

theorem ord_ex : ord exT exT = 0 := by decide

set_option maxHeartbeats 8000000 in
set_option maxRecDepth 100000 in
theorem worksC_any (w : World) (HT : Tabs w) (htab : TabB w.heap.size w) :
    Calls Tryz.prog 9 #[] w fun e w' => e = .returned (.bool true) ∧ Below w.heap.size w w' := by
  have HT0 : Hid (∀ W, Below w.heap.size w W → Tabs W ∧ TabB W.heap.size W) := fun W h => ⟨Tabs.below HT h, htab.up h⟩
  have HP1 : Hid (∀ W, Below w.heap.size w W → Calls Tryz.prog 12 #[.agg #[.int .i64 0, .string ⟨⟨[104, 105]⟩⟩, .int .i64 0, .slice none 0 0], .string ⟨⟨[115]⟩⟩] W fun e w' => e = .returned (.tuple #[.string ⟨⟨[1, 2, 104, 105]⟩⟩, .int .i64 0]) ∧ Below W.heap.size W w') := fun W h => by
    have h1 := Pack_ok [115] (by decide) (.mk 0 [104, 105] 0 []) (fun _ => False) (.agg #[.int .i64 0, .string ⟨⟨[104, 105]⟩⟩, .int .i64 0, .slice none 0 0]) W (by decide) (by decide) (HT0.out W h).1 (HT0.out W h).2 (rep_mk.2 ⟨none, 0, rfl, ⟨by omega, by omega⟩, .inl rfl⟩) (fun _ h => h.elim)
    rw [ex_hi] at h1
    exact h1
  clear HT htab
  go_enter Tryz.func9, Tryz.ntmps9
  go_wp2_with fail
  refine (Of_any [104, 105] w).mono ?_
  rintro _ w1 ⟨rfl, b1⟩
  have HB1 := Lib.hid b1
  clear b1
  go_wp2_with fail
  refine (HP1.out w1 HB1.out).mono ?_
  rintro _ w2 ⟨rfl, b2⟩
  have HB2 := Lib.hid (HB1.out.trans (b2.mono HB1.out.size))
  clear b2 HB1 HP1
  go_wp2_with fail
  refine (Te.Key_any [97, 110, 110] 1 w2).mono ?_
  rintro _ w3 ⟨rfl, b3⟩
  have HB3 := Lib.hid (HB2.out.trans (b3.mono HB2.out.size))
  clear b3 HB2
  go_wp2_with fail
  refine (Num_any 7 w3).mono ?_
  rintro _ w4 ⟨rfl, b4⟩
  have HB4 := Lib.hid (HB3.out.trans (b4.mono HB3.out.size))
  clear b4 HB3
  go_wp2_with fail
  refine (Seal_any annK (.mk 1 [] 7 []) _ _ 2 (fun _ => False) w4 (rep_mk.2 ⟨none, 0, rfl, ⟨by omega, by omega⟩, .inl rfl⟩) (rep_mk.2 ⟨none, 0, rfl, ⟨by omega, by omega⟩, .inl rfl⟩) (fun _ h => h.elim)).mono ?_
  rintro _ w5 ⟨uu, rfl, b5, hnr⟩
  have hrt := newrow_rep (w'' := w5) (S' := fun b => b < w5.heap.size) hnr (fun _ h => h.elim) (fun _ _ => rfl) (fun g _ h => h) 4 [] 2 ⟨by omega, by omega⟩
  obtain ⟨g5, xs5, rfl, -, -, -⟩ := hnr
  have HB5 := Lib.hid (HB4.out.trans (b5.mono HB4.out.size))
  have hbw : Below w5.heap.size w5 (w5.alloc (.cells #[.int .i64 4, .string ⟨#[]⟩, .int .i64 2, .slice (some ⟨g5, 0, none⟩) 2 2] 25)) := (Below.refl _ _).alloc (Nat.le_refl _) _
  have hk6 := heap_alloc_new w5 (.cells #[.int .i64 4, .string ⟨#[]⟩, .int .i64 2, .slice (some ⟨g5, 0, none⟩) 2 2] 25)
  have hs6 : (w5.alloc (.cells #[.int .i64 4, .string ⟨#[]⟩, .int .i64 2, .slice (some ⟨g5, 0, none⟩) 2 2] 25)).heap.size = w5.heap.size + 1 := by simp
  have HRT6 := Lib.hid (rep_below hrt hbw (fun b hb => hb))
  have HB6 := Lib.hid (HB5.out.trans (hbw.mono HB5.out.size))
  have HK6 := Lib.hid hk6
  have HS6 := Lib.hid hs6
  clear b5 hrt hbw hk6 hs6 HB4 HB5
  obtain ⟨x0, x1, x2, x3⟩ := cell4 HK6.out
  obtain ⟨Y, hY⟩ : ∃ Y, Y = wr (pk [115] exT) := ⟨_, rfl⟩
  obtain ⟨pm, -, hpm2, hpm3, -⟩ := pk_puts [115] exT 0 (by decide) (by decide)
  have hYl : Y.length ≤ 9000 := by rw [hY]; omega
  have hup := ex_upk
  rw [← hY] at hup
  have HP2 := Pack_ok [115] (by decide) exT _ _ _ (by decide) (by decide) (HT0.out _ HB6.out).1 (HT0.out _ HB6.out).2 HRT6.out (fun b hb => by have := HS6.out; omega)
  rw [← hY] at HP2
  have HP2 := Lib.hid HP2
  have HUP := Lib.hid hup
  have HYL := Lib.hid hYl
  clear hY hpm2 hpm3 hYl hup
  go_wp2_with fail
  generalize w5.alloc (.cells #[.int .i64 4, .string ⟨#[]⟩, .int .i64 2, .slice (some ⟨g5, 0, none⟩) 2 2] 25) = W6 at *
  refine HP2.out.mono ?_
  rintro _ w7 ⟨rfl, b7⟩
  have HB7 := Lib.hid (HB6.out.trans (b7.mono HB6.out.size))
  have HK7 := Lib.hid ((b7.block w5.heap.size (by have := HS6.out; omega)).trans HK6.out)
  have HRT7 := Lib.hid (rep_below HRT6.out b7 (fun b hb => by have := HS6.out; omega))
  have HS7 := Lib.hid (show w5.heap.size < w7.heap.size by have := HS6.out; have := b7.size; omega)
  clear b7 HB6 HK6 HRT6 HS6 HP2 x0 x1 x2 x3
  go_wp2_with fail
  refine (Te.Key_any [98, 111, 98] 1 w7).mono ?_
  rintro _ w8 ⟨rfl, b8⟩
  have HB8 := Lib.hid (HB7.out.trans (b8.mono HB7.out.size))
  have HK8 := Lib.hid ((b8.block w5.heap.size HS7.out).trans HK7.out)
  have HRT8 := Lib.hid (rep_below HRT7.out b8 (fun b hb => by have := HS7.out; omega))
  have HS8 := Lib.hid (show w5.heap.size < w8.heap.size by have := HS7.out; have := b8.size; omega)
  clear b8 HB7 HK7 HRT7 HS7
  go_wp2_with fail
  refine (Te.Key_any [97, 110, 110] 1 w8).mono ?_
  rintro _ w9 ⟨rfl, b9⟩
  have HB9 := Lib.hid (HB8.out.trans (b9.mono HB8.out.size))
  have HK9 := Lib.hid ((b9.block w5.heap.size HS8.out).trans HK8.out)
  have HRT9 := Lib.hid (rep_below HRT8.out b9 (fun b hb => by have := HS8.out; omega))
  have HS9 := Lib.hid (show w5.heap.size < w9.heap.size by have := HS8.out; have := b9.size; omega)
  clear b9 HB8 HK8 HRT8 HS8
  go_wp2_with fail
  have hbw : Below w9.heap.size w9 (w9.alloc (.cells #[.int .i64 2, .string ⟨⟨[98, 111, 98]⟩⟩, .int .i64 1, .slice none 0 0, .int .i64 2, .string ⟨⟨[97, 110, 110]⟩⟩, .int .i64 1, .slice none 0 0] 25)) := (Below.refl _ _).alloc (Nat.le_refl _) _
  have hn10 := heap_alloc_new w9 (.cells #[.int .i64 2, .string ⟨⟨[98, 111, 98]⟩⟩, .int .i64 1, .slice none 0 0, .int .i64 2, .string ⟨⟨[97, 110, 110]⟩⟩, .int .i64 1, .slice none 0 0] 25)
  have hs10 : (w9.alloc (.cells #[.int .i64 2, .string ⟨⟨[98, 111, 98]⟩⟩, .int .i64 1, .slice none 0 0, .int .i64 2, .string ⟨⟨[97, 110, 110]⟩⟩, .int .i64 1, .slice none 0 0] 25)).heap.size = w9.heap.size + 1 := by simp
  have hcell := fun j => cell_of_row (w9.alloc (.cells #[.int .i64 2, .string ⟨⟨[98, 111, 98]⟩⟩, .int .i64 1, .slice none 0 0, .int .i64 2, .string ⟨⟨[97, 110, 110]⟩⟩, .int .i64 1, .slice none 0 0] 25)) w9.heap.size j _ _ _ hn10
  have hrow : TRow (w9.alloc (.cells #[.int .i64 2, .string ⟨⟨[98, 111, 98]⟩⟩, .int .i64 1, .slice none 0 0, .int .i64 2, .string ⟨⟨[97, 110, 110]⟩⟩, .int .i64 1, .slice none 0 0] 25)) (fun b => b = w9.heap.size) [bobK, annK] (some ⟨w9.heap.size, 0, none⟩) := by
    refine .inr ⟨w9.heap.size, 0, rfl, rfl, ?_⟩
    rw [Reps, Reps, Reps]
    exact ⟨⟨_, _, _, _, (hcell 0).trans rfl, (hcell 1).trans rfl, (hcell 2).trans rfl, (hcell 3).trans rfl, rep_mk.2 ⟨none, 0, rfl, ⟨by omega, by omega⟩, .inl rfl⟩⟩, ⟨_, _, _, _, (hcell 4).trans rfl, (hcell 5).trans rfl, (hcell 6).trans rfl, (hcell 7).trans rfl, rep_mk.2 ⟨none, 0, rfl, ⟨by omega, by omega⟩, .inl rfl⟩⟩, trivial⟩
  have HB10 := Lib.hid (HB9.out.trans (hbw.mono HB9.out.size))
  have hun := Unpack_any Y [115] [bobK, annK] (some ⟨w9.heap.size, 0, none⟩) 2 (fun b => b = w9.heap.size) _ HYL.out (by decide) (by decide) (fun k hk => by simp at hk; rcases hk with rfl | rfl <;> decide) (HT0.out _ HB10.out).1 (HT0.out _ HB10.out).2 hrow (fun b hb => by omega)
  rw [HUP.out] at hun
  have HUN := Lib.hid hun
  have HK10 := Lib.hid ((hbw.block w5.heap.size HS9.out).trans HK9.out)
  have HRT10 := Lib.hid (rep_below HRT9.out hbw (fun b hb => by have := HS9.out; omega))
  have HS10 := Lib.hid (show w5.heap.size < (w9.alloc (.cells #[.int .i64 2, .string ⟨⟨[98, 111, 98]⟩⟩, .int .i64 1, .slice none 0 0, .int .i64 2, .string ⟨⟨[97, 110, 110]⟩⟩, .int .i64 1, .slice none 0 0] 25)).heap.size by have := HS9.out; omega)
  clear hbw hn10 hs10 hcell hrow hun HB9 HK9 HRT9 HS9 HUP HYL
  generalize w9.alloc (.cells #[.int .i64 2, .string ⟨⟨[98, 111, 98]⟩⟩, .int .i64 1, .slice none 0 0, .int .i64 2, .string ⟨⟨[97, 110, 110]⟩⟩, .int .i64 1, .slice none 0 0] 25) = W10 at *
  refine HUN.out.mono ?_
  rintro e w11 ⟨⟨v0, v1, v2, v3, he, hrx⟩, b11⟩
  subst he
  obtain ⟨TA, tc, hv, -, -⟩ := rep_mk.1 hrx
  injection hv with hv
  simp at hv
  obtain ⟨rfl, rfl, rfl, rfl⟩ := hv
  have hbw : Below w11.heap.size w11 (w11.alloc (.cells #[.int .i64 4, .string ⟨⟨[]⟩⟩, .int .i64 2, .slice TA 2 tc] 25)) := (Below.refl _ _).alloc (Nat.le_refl _) _
  have hn12 := heap_alloc_new w11 (.cells #[.int .i64 4, .string ⟨⟨[]⟩⟩, .int .i64 2, .slice TA 2 tc] 25)
  have hs12 : (w11.alloc (.cells #[.int .i64 4, .string ⟨⟨[]⟩⟩, .int .i64 2, .slice TA 2 tc] 25)).heap.size = w11.heap.size + 1 := by simp
  have hs11 := b11.size
  have hs10 := HS10.out
  have hk12 := (hbw.block w5.heap.size (by omega)).trans ((b11.block w5.heap.size hs10).trans HK10.out)
  have hr12 := rep_keep (S' := fun b => b < w11.heap.size) (fun b hb => by omega) (fun b o hb => (hbw.cell (p := ⟨b, o, none⟩) (by show b < w11.heap.size; omega)).trans (b11.cell (p := ⟨b, o, none⟩) (by show b < W10.heap.size; omega))) _ _ HRT10.out
  have hx12 := rep_keep (S' := fun b => b < w11.heap.size) (fun b hb => hb.2) (fun b o hb => hbw.cell (p := ⟨b, o, none⟩) hb.2) _ _ hrx
  have HB12 := Lib.hid (HB10.out.trans ((b11.mono HB10.out.size).trans (hbw.mono (Nat.le_trans HB10.out.size b11.size))))
  obtain ⟨x0, x1, x2, x3⟩ := cell4 hk12
  obtain ⟨z0, z1, z2, z3⟩ := cell4 hn12
  have hsame := Te.Same_any exT exT (fun b => b < w11.heap.size) _ _ _ (by decide) hr12 hx12 (fun b hb => by omega)
  rw [ord_ex] at hsame
  have HSAME := Lib.hid hsame
  clear hbw hn12 hs12 hs11 hs10 hk12 hr12 hx12 hrx b11 HB10 HK10 HRT10 HS10 HUN hsame
  go_wp2_with fail
  refine HSAME.out.mono ?_
  rintro _ w13 ⟨rfl, b13⟩
  have HB13 := Lib.hid (HB12.out.trans (b13.mono HB12.out.size))
  clear b13 HB12 HSAME x0 x1 x2 x3 z0 z1 z2 z3
  simp only [decide_true]
  go_wp2_with fail
  refine (Te.Key_any [] 1 w13).mono ?_
  rintro _ w14 ⟨rfl, b14⟩
  have HB14 := Lib.hid (HB13.out.trans (b14.mono HB13.out.size))
  clear b14 HB13
  have HBY := Lib.hid (Bytes_any 2 [] 1 none 0 0 [115] w14 (HT0.out _ HB14.out).1 (by decide) (by decide))
  have hkl := kb_length [115] [] 1
  generalize Cy.kb [115] [] 1 = K at *
  go_wp2_with fail
  refine HBY.out.mono ?_
  rintro _ w15 ⟨rfl, b15⟩
  have HB15 := Lib.hid (HB14.out.trans (b15.mono HB14.out.size))
  clear b15 HB14 HBY
  go_wp2
  go_ret
  exact ⟨rfl, HB15.out⟩
end Go.Proofs.YticofjbngfjjlaaGreatDoor.Cy

/- The carry law's few, and CarryBytes, walked. (Laid with NS=1.) -/

namespace Go.Proofs.YticofjbngfjjlaaGreatDoor.Cy
open Go.RowKit
open Te Te.Tt
open Wi.Wr (It wr wrs)

set_option maxHeartbeats 2000000 in
set_option maxRecDepth 100000 in
theorem few_nil (x : Tm) (S : Nat → Prop) (v : Value) (w : World) (hsz : sz x ≤ 4000000) (hr : Rep w S x v) (hS : ∀ b, S b → b < w.heap.size) :
    Calls Tryz.prog 10 #[v, .slice none 0 0] w fun e w' => e = .returned (.bool (!decide (40 < sz x))) ∧ Below w.heap.size w w' := by
  obtain ⟨t, ht⟩ : ∃ t, t = decide (40 < sz x) := ⟨_, rfl⟩
  have hL := fun W => Large_any x 40 S v W hsz
  rw [← ht]
  obtain ⟨k, s, n, l⟩ := x
  obtain ⟨A, ca, rfl, -, -⟩ := rep_mk.1 hr
  have hb0 : Below w.heap.size w (w.alloc (.cells #[.int .i64 k, .string ⟨⟨s⟩⟩, .int .i64 n, .slice A l.length ca] 25)) := (Below.refl _ _).alloc (Nat.le_refl _) _
  have hL0 := hL _ (rep_below hr hb0 hS) (fun b hb => Nat.lt_of_lt_of_le (hS b hb) hb0.size)
  rw [← ht] at hL0
  have HL := Lib.hid hL0
  have HB0 := Lib.hid hb0
  clear hL hb0 hL0 hr hS ht hsz
  go_enter Tryz.func10, Tryz.ntmps10
  go_wp2_with fail
  refine HL.out.mono ?_
  rintro _ w1 ⟨rfl, b1⟩
  have HB1 := Lib.hid (HB0.out.trans (b1.mono HB0.out.size))
  clear b1 HL HB0
  cases t
  · go_wp2
    go_loopw [6] (fun iv wr => iv = .int .i64 0 ∧ Hid (Below w.heap.size w wr)) (fun _ _ => 0)
    case atStart => exact ⟨rfl, HB1⟩
    case round =>
      obtain ⟨rfl, HB⟩ := hrel
      go_wp2
      go_ret
      exact ⟨rfl, HB.out⟩
  · go_wp2
    go_ret
    exact ⟨rfl, HB1.out⟩

theorem wr_key (K : List UInt8) (h : K.length = 32) : wr (leaf 3 K) = 3 :: 32 :: K := by
  rw [leaf, Wi.Wr.wr_mk, Wi.Wr.wrs_nil, List.append_nil, h]
  have h2 : Wi.Wr.lb 32 = [32] := by rw [Wi.Wr.lb]; decide
  rw [h2]
  rfl
theorem upk_key (c s : List UInt8) (n : Int) (hv : vld 0 (.mk 2 s n []) = true) (hn : InR n) : upk c [.mk 2 s n []] (3 :: 32 :: Cy.kb c s n) = .ok (.mk 2 s n []) := by
  have hp : pk c (.mk 2 s n []) = leaf 3 (Cy.kb c s n) := by rw [pk]; rfl
  have hk : kfl [.mk 2 s n []] = [.mk 2 s n []] := by
    have h1 : (decide ((Tm.mk 2 s n []).k = 2) && vld 0 (.mk 2 s n [])) = true := by rw [hv]; rfl
    unfold kfl
    simp only [List.filter_cons, h1, if_true, List.filter_nil]
  rw [← wr_key _ (kb_length c s n), ← hp]
  refine upk_pk c _ _ hv (by simp only [inr, inrs]; exact ⟨hn, trivial⟩) ?_ (by simp [sz, szs])
  rw [hk, cln, clns]
  refine ⟨fun _ => ?_, fun h => absurd h (by decide), fun h => absurd h (by decide), trivial⟩
  unfold fnd
  rw [List.find?_cons]
  simp [Tm.s, Tm.n]
end Go.Proofs.YticofjbngfjjlaaGreatDoor.Cy

/- What the rows' list of variables gives: the table uint64pow10. -/

namespace Go.Proofs.YticofjbngfjjlaaGreatDoor.Te
open Go.RowKit

theorem own : ownKnob Tryz.prog.godebug = none := by kernel_rfl
theorem g0 : Tryz.prog.globalNamed "internal/strconv.uint64pow10" = some 2 := by kernel_rfl
theorem g0t : (Tryz.prog.globals[2]?).map (·.type) = some 219 := by kernel_rfl
theorem cells20 : Tryz.prog.cellsOf 219 = 20 := by kernel_rfl
theorem cells64 : Tryz.prog.cellsOf 117 = 1 := by kernel_rfl
theorem pow_data : (Rows.laid_internal_strconv_uint64pow10 : DataW Unit) = Lib.tabData .u64 Lib.pow10Tab := by rfl
def listed : List (String × DataW Unit) := [("math/bits.deBruijn32tab", Rows.laid_math_bits_deBruijn32tab), ("math/bits.deBruijn64tab", Rows.laid_math_bits_deBruijn64tab), ("internal/strconv.uint64pow10", Rows.laid_internal_strconv_uint64pow10)]

theorem tabs_of {W : World} (h : laidMetH Tryz.prog listed W) : TabB W.heap.size W := by
  have h1 := laidMetH.filter (fun x => x.1 == "internal/strconv.uint64pow10") h
  have e : listed.filter (fun x => x.1 == "internal/strconv.uint64pow10") = [("internal/strconv.uint64pow10", Lib.tabData .u64 Lib.pow10Tab)] := by rw [← pow_data]; rfl
  rw [e] at h1
  exact Lib.tabBelow_of_tabIs (Lib.tabIs_of_head (rest := []) g0 g0t Tryz.underlying219 Tryz.underlying117 cells64 cells20 h1)

/-- A block that holds a table. -/
def valsOf : DataW Unit → Array Value
  | .agg l => (l.filterMap fun d => match d with | .lit (.int k z) => some (Value.int k z) | _ => none).toArray
  | _ => #[]
def laidObj (d : DataW Unit) : Obj → Obj
  | .cells _ t frozen => .cells (valsOf d) t frozen
  | o => o
/-- A world for the witness: the settled one, the tables holding what their initialisers lay. -/
noncomputable def laidWorld (os : Os) : World :=
  { World.holding Tryz.prog os ⟨#[], #[], []⟩ with heap := (((World.holding Tryz.prog os ⟨#[], #[], []⟩).heap.modify 2 (laidObj Rows.laid_internal_strconv_uint64pow10)).modify 3 (laidObj Rows.laid_math_bits_deBruijn32tab)).modify 4 (laidObj Rows.laid_math_bits_deBruijn64tab) }
end Go.Proofs.YticofjbngfjjlaaGreatDoor.Te

/- What the rows' list of variables gives: the two tables' cells. -/

namespace Go.Proofs.YticofjbngfjjlaaGreatDoor
open Go.RowKit

theorem own : ownKnob Tryz.prog.godebug = none := by kernel_rfl
theorem g0 : Tryz.prog.globalNamed "legate/sha.squareRoots" = some 0 := by kernel_rfl
theorem g1 : Tryz.prog.globalNamed "legate/sha.cubeRoots" = some 1 := by kernel_rfl
theorem g0t : (Tryz.prog.globals[0]?).map (·.type) = some 132 := by kernel_rfl
theorem g1t : (Tryz.prog.globals[1]?).map (·.type) = some 179 := by kernel_rfl
theorem cells36 : Tryz.prog.cellsOf 132 = 8 := by kernel_rfl
theorem cells50 : Tryz.prog.cellsOf 179 = 64 := by kernel_rfl
theorem cells35 : Tryz.prog.cellsOf 131 = 1 := by kernel_rfl

def ints (l : List Nat) : List Int := l.map Int.ofNat
def listed : List (String × DataW Unit) := [("legate/sha.cubeRoots", Rows.laid_legate_sha_cubeRoots), ("legate/sha.squareRoots", Rows.laid_legate_sha_squareRoots)]
theorem cube_data : (Rows.laid_legate_sha_cubeRoots : DataW Unit) = Lib.tabData .u32 (ints Sh.KK) := by rfl
theorem square_data : (Rows.laid_legate_sha_squareRoots : DataW Unit) = Lib.tabData .u32 (ints Sh.SQ) := by rfl

theorem getD_map (l : List Nat) (i : Nat) : (ints l).getD i 0 = ((l.getD i 0 : Nat) : Int) := by
  simp only [ints, List.getD_eq_getElem?_getD, List.getElem?_map]
  cases l[i]? <;> rfl

theorem tabs_of {W : World} (h : laidMetH Tryz.prog listed W) : Tabs W := by
  have hc : Lib.TabIs Tryz.prog W "legate/sha.cubeRoots" .u32 (ints Sh.KK) := by
    have h1 := laidMetH.filter (fun x => x.1 == "legate/sha.cubeRoots") h
    have e : listed.filter (fun x => x.1 == "legate/sha.cubeRoots") = [("legate/sha.cubeRoots", Lib.tabData .u32 (ints Sh.KK))] := by rw [← cube_data]; rfl
    rw [e] at h1
    exact Lib.tabIs_of_head (rest := []) g1 g1t Tryz.underlying179 Tryz.underlying131 cells35 cells50 h1
  have hs : Lib.TabIs Tryz.prog W "legate/sha.squareRoots" .u32 (ints Sh.SQ) := by
    have h1 := laidMetH.filter (fun x => x.1 == "legate/sha.squareRoots") h
    have e : listed.filter (fun x => x.1 == "legate/sha.squareRoots") = [("legate/sha.squareRoots", Lib.tabData .u32 (ints Sh.SQ))] := by rw [← square_data]; rfl
    rw [e] at h1
    exact Lib.tabIs_of_head (rest := []) g0 g0t Tryz.underlying132 Tryz.underlying131 cells35 cells36 h1
  have k1 : ∀ i, i < 64 → W.cell? ⟨1, i, none⟩ = some (.int .u32 (Sh.KK.getD i 0 : Nat)) := fun i hi => by
    rw [← getD_map]
    exact hc.cell g1 i (by rw [ints, List.length_map]; exact hi)
  have k0 : ∀ i, i < 8 → W.cell? ⟨0, i, none⟩ = some (.int .u32 (Sh.SQ.getD i 0 : Nat)) := fun i hi => by
    rw [← getD_map]
    exact hs.cell g0 i (by rw [ints, List.length_map]; exact hi)
  exact ⟨k0, k1, block_lt_of_cell (k1 0 (by decide))⟩

/-- A block that holds a table. -/
def laidObj (l : List Nat) : Obj → Obj
  | .cells _ t frozen => .cells (cells l) t frozen
  | o => o
/-- A world for the witness: the settled one, the tables holding what their initialisers lay. -/
noncomputable def laidWorld (os : Os) : World :=
  { World.holding Tryz.prog os ⟨#[], #[], []⟩ with heap := ((World.holding Tryz.prog os ⟨#[], #[], []⟩).heap.modify 0 (laidObj Sh.SQ)).modify 1 (laidObj Sh.KK) }
end Go.Proofs.YticofjbngfjjlaaGreatDoor

