/- The law KnowSecret, walked. (Laid with NS=1; written by gen/knl3.py.) -/
import Derived.Test.YtiidooponlbnmaaDoorKnSe
import Derived.Test.YtiidooponlbnmaaDoorKnL1
import Derived.Test.YtiidooponlbnmaaDoorCyOpen
namespace Go.Proofs.YtiidooponlbnmaaDoor.Kn
open Go.RowKit Go.Sort
open Te Te.Tt
open Go (Lit DataW MemPlace keyOf maxLen)

/-- A new row, seen from a later world that leaves it, and what it leads to, alone. -/
theorem nrow_rep {S S' : Nat → Prop} {m : Nat} {w' w'' : World} {l : List Tm} {u : Value} (h : NewRow S m w' l u) (hS : ∀ b, S b → S' b) (hk : ∀ b, S b ∨ (m ≤ b ∧ b < w'.heap.size) → w''.heap[b]? = w'.heap[b]?) (hg : ∀ g, m ≤ g → g < w'.heap.size → S' g) (k : Int) (s : List UInt8) (n : Int) (hn : InR n) :
    Rep w'' S' (.mk k s n l) (.agg #[.int .i64 k, .string ⟨⟨s⟩⟩, .int .i64 n, u]) := by
  obtain ⟨g, xs, rfl, hgm, hc, he⟩ := h
  have hlt : g < w'.heap.size := (Array.getElem?_eq_some_iff.1 hc).1
  refine rep_mk.2 ⟨_, _, rfl, hn, .inr ⟨g, 0, rfl, hg g hgm hlt, ?_⟩⟩
  refine els_reps l xs 0 (els_keep hS (fun b o hb => World.cell?_of_block (a := ⟨b, o, none⟩) (hk b (.inl hb))) l xs he) fun j u hj => ?_
  rw [Nat.zero_add, cell_of_row _ _ _ _ _ _ ((hk g (.inr ⟨hgm, hlt⟩)).trans hc)]
  simpa using hj

set_option maxHeartbeats 16000000 in
set_option maxRecDepth 100000 in
theorem knowSecret_walk (l : List Tm) (A : Option Addr) (ca : Nat) (x : Tm) (v : Value) (y : Tm) (u : Value) (U : World) (h1 : Te.Tt.szs l ≤ 1048576) (h3 : sz x ≤ 262000) (h2 : sz y ≤ 262000) (hrl : TRow U (Lo U) l A) (hrx : Rep U (Lo U) x v) (hry : Rep U (Lo U) y u) (htab : TabB U.heap.size U) :
    Calls Tryd.prog 6 #[.slice A l.length ca, v, u] U fun e w' => e = .returned (.bool true) ∧ Below U.heap.size U w' := by
  obtain ⟨ak, at', an, al⟩ := x
  obtain ⟨gk, gt, gn, gl⟩ := y
  have hrx0 := hrx
  have hry0 := hry
  obtain ⟨SA, sc, rfl, -, -⟩ := rep_mk.1 hrx
  obtain ⟨GA, gc, rfl, -, -⟩ := rep_mk.1 hry
  obtain ⟨V, hV⟩ : ∃ V, V = (U.alloc (.cells #[.int .i64 ak, .string ⟨⟨at'⟩⟩, .int .i64 an, .slice SA al.length sc] 33)).alloc (.cells #[.int .i64 gk, .string ⟨⟨gt⟩⟩, .int .i64 gn, .slice GA gl.length gc] 33) := ⟨_, rfl⟩
  obtain ⟨z, hz⟩ : ∃ z, z = U.heap.size := ⟨_, rfl⟩
  have hb0 : Below U.heap.size U V := by rw [hV]; exact ((Below.refl _ _).alloc (Nat.le_refl _) _).alloc (by simp) _
  have hg0 : V.heap[z]? = some (.cells #[.int .i64 ak, .string ⟨⟨at'⟩⟩, .int .i64 an, .slice SA al.length sc] 33 (0, 0)) := by rw [hV, Below.heap_alloc _ _ _ (by simp; omega), hz]; exact heap_alloc_new U _
  have hg1 : V.heap[z + 1]? = some (.cells #[.int .i64 gk, .string ⟨⟨gt⟩⟩, .int .i64 gn, .slice GA gl.length gc] 33 (0, 0)) := by
    have e := heap_alloc_new (U.alloc (.cells #[.int .i64 ak, .string ⟨⟨at'⟩⟩, .int .i64 an, .slice SA al.length sc] 33)) (.cells #[.int .i64 gk, .string ⟨⟨gt⟩⟩, .int .i64 gn, .slice GA gl.length gc] 33)
    have es : (U.alloc (.cells #[.int .i64 ak, .string ⟨⟨at'⟩⟩, .int .i64 an, .slice SA al.length sc] 33)).heap.size = z + 1 := by rw [hz]; simp
    rw [es] at e
    rw [hV]; exact e
  have hrl' := trow_below hrl hb0 (fun _ h => h)
  have hrx' := rep_below hrx0 hb0 (fun _ h => h)
  have hry' := rep_below hry0 hb0 (fun _ h => h)
  have hlo : ∀ i, Lo U i → i < V.heap.size := fun i hi => Nat.lt_of_lt_of_le hi hb0.size
  have HOL : Hid (∀ W, Below V.heap.size V W → Calls Tryd.prog 9 #[.slice A l.length ca] W fun e w' => e = .returned (.bool (decide (120 < 1 + Te.Tt.szs l))) ∧ Below W.heap.size W w') := fun W hW =>
    over_any l A ca (Lo U) W (by omega) (trow_below hrl' hW hlo) (fun i hi => Nat.lt_of_lt_of_le (hlo i hi) hW.size)
  have HVX : Hid (∀ W, Below V.heap.size V W → Calls Tryd.prog 23 #[.agg #[.int .i64 ak, .string ⟨⟨at'⟩⟩, .int .i64 an, .slice SA al.length sc]] W fun e w' => e = .returned (.bool (vld 0 (Tm.mk ak at' an al))) ∧ Below W.heap.size W w') := fun W hW =>
    Valid_any (Tm.mk ak at' an al) (Lo U) _ W (by omega) (rep_below hrx' hW hlo) (fun i hi => Nat.lt_of_lt_of_le (hlo i hi) hW.size)
  have HVY : Hid (∀ W, Below V.heap.size V W → Calls Tryd.prog 23 #[.agg #[.int .i64 gk, .string ⟨⟨gt⟩⟩, .int .i64 gn, .slice GA gl.length gc]] W fun e w' => e = .returned (.bool (vld 0 (Tm.mk gk gt gn gl))) ∧ Below W.heap.size W w') := fun W hW =>
    Valid_any (Tm.mk gk gt gn gl) (Lo U) _ W (by omega) (rep_below hry' hW hlo) (fun i hi => Nat.lt_of_lt_of_le (hlo i hi) hW.size)
  have HSM : Hid (∀ W, Below V.heap.size V W → Calls Tryd.prog 24 #[.agg #[.int .i64 ak, .string ⟨⟨at'⟩⟩, .int .i64 an, .slice SA al.length sc], .agg #[.int .i64 gk, .string ⟨⟨gt⟩⟩, .int .i64 gn, .slice GA gl.length gc]] W fun e w' => e = .returned (.bool (decide (ord (Tm.mk ak at' an al) (Tm.mk gk gt gn gl) = 0))) ∧ Below W.heap.size W w') := fun W hW =>
    Same_any (Tm.mk ak at' an al) (Tm.mk gk gt gn gl) (Lo U) _ _ W (by omega) (rep_below hrx' hW hlo) (rep_below hry' hW hlo) (fun i hi => Nat.lt_of_lt_of_le (hlo i hi) hW.size)
  obtain ⟨o1, ho1⟩ : ∃ o1, o1 = decide (120 < 1 + Te.Tt.szs l) := ⟨_, rfl⟩
  obtain ⟨o2, ho2⟩ : ∃ o2, o2 = vld 0 (Tm.mk ak at' an al) := ⟨_, rfl⟩
  obtain ⟨o3, ho3⟩ : ∃ o3, o3 = vld 0 (Tm.mk gk gt gn gl) := ⟨_, rfl⟩
  obtain ⟨o4, ho4⟩ : ∃ o4, o4 = decide (ord (Tm.mk ak at' an al) (Tm.mk gk gt gn gl) = 0) := ⟨_, rfl⟩
  rw [← ho1] at HOL
  rw [← ho2] at HVX
  rw [← ho3] at HVY
  rw [← ho4] at HSM
  have HO1 := Lib.hid ho1
  have HO2 := Lib.hid ho2
  have HO3 := Lib.hid ho3
  have HO4 := Lib.hid ho4
  have HRL := Lib.hid hrl'
  have HRX := Lib.hid hrx'
  have HRY := Lib.hid hry'
  have HLO := Lib.hid hlo
  have hT := TabB.up htab hb0
  have HT := Lib.hid hT
  have HB0 := Lib.hid hb0
  have HVV := Lib.hid hV
  have HZZ := Lib.hid hz
  have HSX : Hid (sz (Tm.mk ak at' an al) ≤ 262144) := by rw [Hid]; omega
  have HSY : Hid (sz (Tm.mk gk gt gn gl) ≤ 262144) := by rw [Hid]; omega
  have HSY2 := Lib.hid h2
  have HC0 : Hid (∀ W, Below V.heap.size V W → W.cell? ⟨z, 0, none⟩ = some (.int .i64 ak) ∧ W.cell? ⟨z, 1, none⟩ = some (.string ⟨⟨at'⟩⟩) ∧ W.cell? ⟨z, 2, none⟩ = some (.int .i64 an) ∧ W.cell? ⟨z, 3, none⟩ = some (.slice SA al.length sc)) := fun W hW => cell4 ((hW.block z (Array.getElem?_eq_some_iff.1 hg0).1).trans hg0)
  have HC1 : Hid (∀ W, Below V.heap.size V W → W.cell? ⟨z + 1, 0, none⟩ = some (.int .i64 gk) ∧ W.cell? ⟨z + 1, 1, none⟩ = some (.string ⟨⟨gt⟩⟩) ∧ W.cell? ⟨z + 1, 2, none⟩ = some (.int .i64 gn) ∧ W.cell? ⟨z + 1, 3, none⟩ = some (.slice GA gl.length gc)) := fun W hW => cell4 ((hW.block (z + 1) (Array.getElem?_eq_some_iff.1 hg1).1).trans hg1)
  obtain ⟨m, hm⟩ : ∃ m, m = l.length := ⟨_, rfl⟩
  rw [← hm] at HOL ⊢
  have HM := Lib.hid hm
  have HWK := Lib.hid (worksK_any V hT)
  clear h1 h2 h3 hrl hrx hry hrx0 hry0 hrl' hrx' hry' hlo htab hT ho1 ho2 ho3 ho4 hm hb0 hg0 hg1 hV hz
  go_enter Tryd.func6, Tryd.ntmps6
  go_wp2_with fail
  rw [← HVV.out, ← HZZ.out]
  refine HWK.out.mono ?_
  rintro _ w1 ⟨rfl, b1⟩
  have HB1 := Lib.hid b1
  clear b1 HWK
  go_wp2_with fail
  refine (HOL.out w1 HB1.out).mono ?_
  rintro _ w2 ⟨rfl, b2⟩
  have HB2 := Lib.hid (HB1.out.trans (b2.mono HB1.out.size))
  clear b2 HOL HB1
  obtain ⟨z0, z1, z2, z3⟩ := HC0.out w2 HB2.out
  obtain ⟨y0, y1, y2, y3⟩ := HC1.out w2 HB2.out
  cases o1
  case true =>
    go_wp2
    go_ret
    exact ⟨rfl, HB0.out.trans (HB2.out.mono HB0.out.size)⟩
  case false =>
  by_cases hak : ak = 2
  case neg =>
    have e1 : (ak == 2) = false := by simpa using hak
    go_wp2
    go_ret
    exact ⟨rfl, HB0.out.trans (HB2.out.mono HB0.out.size)⟩
  case pos =>
  subst hak
  by_cases hgk : gk = 2
  case neg =>
    have e1 : (gk == 2) = false := by simpa using hgk
    go_wp2
    go_ret
    exact ⟨rfl, HB0.out.trans (HB2.out.mono HB0.out.size)⟩
  case pos =>
  subst hgk
  go_wp2_with fail
  refine (HVX.out w2 HB2.out).mono ?_
  rintro _ w3 ⟨rfl, b3⟩
  have HB3 := Lib.hid (HB2.out.trans (b3.mono HB2.out.size))
  clear b3 HVX HB2 z0 z1 z2 z3 y0 y1 y2 y3
  cases o2
  case false =>
    go_wp2
    go_ret
    exact ⟨rfl, HB0.out.trans (HB3.out.mono HB0.out.size)⟩
  case true =>
  obtain ⟨y0, y1, y2, y3⟩ := HC1.out w3 HB3.out
  go_wp2_with fail
  refine (HVY.out w3 HB3.out).mono ?_
  rintro _ w4 ⟨rfl, b4⟩
  have HB4 := Lib.hid (HB3.out.trans (b4.mono HB3.out.size))
  clear b4 HVY HB3 y0 y1 y2 y3
  cases o3
  case false =>
    go_wp2
    go_ret
    exact ⟨rfl, HB0.out.trans (HB4.out.mono HB0.out.size)⟩
  case true =>
  obtain ⟨z0, z1, z2, z3⟩ := HC0.out w4 HB4.out
  obtain ⟨y0, y1, y2, y3⟩ := HC1.out w4 HB4.out
  go_wp2_with fail
  refine (HSM.out w4 HB4.out).mono ?_
  rintro _ w5 ⟨rfl, b5⟩
  have HB5 := Lib.hid (HB4.out.trans (b5.mono HB4.out.size))
  clear b5 HSM HB4 z0 z1 z2 z3 y0 y1 y2 y3
  cases o4
  case true =>
    go_wp2
    go_ret
    exact ⟨rfl, HB0.out.trans (HB5.out.mono HB0.out.size)⟩
  case false =>
  have HSL : Hid (Te.Tt.szs l ≤ 119) := by have := HO1.out; rw [eq_comm, decide_eq_false_iff_not] at this; rw [Hid]; omega
  have hm119 : m ≤ 119 := by have h1 := szs_len l; have h2 := HSL.out; have h3 := HM.out; omega
  clear HO1
  go_wp2_with fail
  refine (New_any w5).mono ?_
  rintro _ w6 ⟨g1, d1, e1, rfl, hs6, b6⟩
  have HTW : Hid (Sole V g1 d1 e1 (hs (l.take 0)) (120 * 0) w6) :=
    ⟨_, ⟨_, _, _, hs6, Inv.start.congr (fun y => by simp), fun i hi => Nat.le_trans HB5.out.size hi.1, by decide⟩, HB5.out.trans (b6.mono HB5.out.size)⟩
  clear hs6 b6 HB5
  go_wp2_with fail
  go_loopw [9] (fun iv wr => ∃ i : Nat, i ≤ m ∧ iv = .int .i64 (i : Nat) ∧ Hid (Sole V g1 d1 e1 (hs (l.take i)) (120 * i) wr) ∧ Hid (∀ x ∈ l.take i, NoS (Tm.mk 2 at' an al) (Tm.mk 2 gt gn gl) x)) (fun iv _ => m - (intOf iv).toNat)
  case atStart => exact ⟨0, by omega, rfl, HTW, Lib.hid (fun x hx => absurd hx (by simp))⟩
  case round =>
    obtain ⟨i, hi, rfl, HT2, HNS⟩ := hrel
    by_cases hlt : i < m
    · have hil : (i : Int) < (m : Int) := by omega
      have hlt1 : i < l.length := by rw [← HM.out]; exact hlt
      have hbel := HT2.out.bel
      have hlo := fun i (hi : Lo U i) => Nat.lt_of_lt_of_le (HLO.out i hi) hbel.size
      obtain ⟨b, o, k, s, p, y, C, cy, hA, hSb, hx, x0, x1, x2, x3, hrep⟩ := trow_get HRL.out hbel HLO.out hlt1
      subst hA
      have hszx : sz (.mk k s p y) ≤ 119 := by
        have h1 := szs_mem l _ (List.getElem_mem hlt1)
        rw [hx] at h1
        have := HSL.out
        omega
      have hL1 := HT2.out.learn HT.out (.mk k s p y) (Lo U) _ hrep hlo (120 * (i + 1)) (by omega) (by omega)
      have hx1 : l.take (i + 1) = l.take i ++ [.mk k s p y] := by rw [List.take_succ_eq_append_getElem hlt1, hx]
      obtain ⟨a1, ha1⟩ : ∃ b, b = shw (Tm.mk 2 at' an al) (Tm.mk 2 gt gn gl) (.mk k s p y) := ⟨_, rfl⟩
      obtain ⟨a2, ha2⟩ : ∃ b, b = shw (Tm.mk 2 gt gn gl) (Tm.mk 2 at' an al) (.mk k s p y) := ⟨_, rfl⟩
      obtain ⟨a3, ha3⟩ : ∃ b, b = shw (Tm.mk 2 gt gn gl) (Tm.mk 2 gt gn gl) (.mk k s p y) := ⟨_, rfl⟩
      have k1 : ∀ d os, Calls Tryd.prog 25 #[.agg #[.int .i64 k, .string ⟨⟨s⟩⟩, .int .i64 p, .slice C y.length cy], .agg #[.int .i64 2, .string ⟨⟨at'⟩⟩, .int .i64 an, .slice SA al.length sc], .agg #[.int .i64 2, .string ⟨⟨gt⟩⟩, .int .i64 gn, .slice GA gl.length gc]] (Go.Sort.grow (redrawn wr d) os) fun e w'' => e = .returned (.bool a1) ∧ ∃ p : Regrown, w'' = Go.Sort.grow (redrawn wr p.d) p.os := fun d os => by
        rw [ha1]
        have hb := hbel.trans ((below_regrown wr d os).mono hbel.size)
        exact Calls.regrown_of (shows_any (Tm.mk 2 at' an al) (Tm.mk 2 gt gn gl) HSX.out _ (Lo U) _ _ _ _ (by omega) (rep_below hrep (below_regrown wr d os) hlo) (rep_below HRX.out hb HLO.out) (rep_below HRY.out hb HLO.out) (fun i hi => Nat.lt_of_lt_of_le (HLO.out i hi) hb.size))
      have k2 : ∀ d os, Calls Tryd.prog 25 #[.agg #[.int .i64 k, .string ⟨⟨s⟩⟩, .int .i64 p, .slice C y.length cy], .agg #[.int .i64 2, .string ⟨⟨gt⟩⟩, .int .i64 gn, .slice GA gl.length gc], .agg #[.int .i64 2, .string ⟨⟨at'⟩⟩, .int .i64 an, .slice SA al.length sc]] (Go.Sort.grow (redrawn wr d) os) fun e w'' => e = .returned (.bool a2) ∧ ∃ p : Regrown, w'' = Go.Sort.grow (redrawn wr p.d) p.os := fun d os => by
        rw [ha2]
        have hb := hbel.trans ((below_regrown wr d os).mono hbel.size)
        exact Calls.regrown_of (shows_any (Tm.mk 2 gt gn gl) (Tm.mk 2 at' an al) HSY.out _ (Lo U) _ _ _ _ (by omega) (rep_below hrep (below_regrown wr d os) hlo) (rep_below HRY.out hb HLO.out) (rep_below HRX.out hb HLO.out) (fun i hi => Nat.lt_of_lt_of_le (HLO.out i hi) hb.size))
      have k3 : ∀ d os, Calls Tryd.prog 25 #[.agg #[.int .i64 k, .string ⟨⟨s⟩⟩, .int .i64 p, .slice C y.length cy], .agg #[.int .i64 2, .string ⟨⟨gt⟩⟩, .int .i64 gn, .slice GA gl.length gc], .agg #[.int .i64 2, .string ⟨⟨gt⟩⟩, .int .i64 gn, .slice GA gl.length gc]] (Go.Sort.grow (redrawn wr d) os) fun e w'' => e = .returned (.bool a3) ∧ ∃ p : Regrown, w'' = Go.Sort.grow (redrawn wr p.d) p.os := fun d os => by
        rw [ha3]
        have hb := hbel.trans ((below_regrown wr d os).mono hbel.size)
        exact Calls.regrown_of (shows_any (Tm.mk 2 gt gn gl) (Tm.mk 2 gt gn gl) HSY.out _ (Lo U) _ _ _ _ (by omega) (rep_below hrep (below_regrown wr d os) hlo) (rep_below HRY.out hb HLO.out) (rep_below HRY.out hb HLO.out) (fun i hi => Nat.lt_of_lt_of_le (HLO.out i hi) hb.size))
      have HKS := Lib.hid (And.intro k1 (And.intro k2 k3))
      have HA := Lib.hid (And.intro ha1 (And.intro ha2 ha3))
      have HX1 := Lib.hid hx1
      have HX0 := Lib.hid (And.intro hszx hrep)
      have HBR := Lib.hid hbel
      have HTR := HT2
      obtain ⟨c0, c1, c2, c3⟩ := HC0.out wr hbel
      obtain ⟨y0, y1, y2, y3⟩ := HC1.out wr hbel
      clear ha1 ha2 ha3 k1 k2 k3 hL1 hx hx1 hrep hszx hlo hbel
      cases a1
      case true =>
        go_wp2_with fail
        have i0 := cell_regrown c0
        have i1 := cell_regrown c1
        have i2 := cell_regrown c2
        have i3 := cell_regrown c3
        have j0 := cell_regrown y0
        have j1 := cell_regrown y1
        have j2 := cell_regrown y2
        have j3 := cell_regrown y3
        have q0 := cell_regrown x0
        have q1 := cell_regrown x1
        have q2 := cell_regrown x2
        have q3 := cell_regrown x3
        obtain ⟨k1, k2, k3⟩ := HKS.out
        refine wp_region_quiet_below (by kernel_rfl) (by kernel_rfl) ?_
        repeat (quiet_step (first | with_reducible exact k1 _ _ | with_reducible exact k2 _ _ | with_reducible exact k3 _ _))
        refine wpQuiet_nil ?_
        intro _ hw'
        obtain ⟨⟨dq, osq⟩, hw''⟩ := hw'
        subst hw''
        have HBQ := Lib.hid (HBR.out.trans ((below_regrown wr dq osq).mono HBR.out.size))
        have HTQ := Lib.hid (HTR.out.below (below_regrown wr dq osq))
        clear i0 i1 i2 i3 j0 j1 j2 j3 q0 q1 q2 q3 c0 c1 c2 c3 y0 y1 y2 y3 x0 x1 x2 x3 k1 k2 k3 HKS HBR HTR
        generalize Go.Sort.grow (redrawn wr dq) osq = w7 at *
        go_wp2
        go_ret
        exact ⟨rfl, HB0.out.trans (HBQ.out.mono HB0.out.size)⟩
      case false =>
      cases a2
      case true =>
        go_wp2_with fail
        have i0 := cell_regrown c0
        have i1 := cell_regrown c1
        have i2 := cell_regrown c2
        have i3 := cell_regrown c3
        have j0 := cell_regrown y0
        have j1 := cell_regrown y1
        have j2 := cell_regrown y2
        have j3 := cell_regrown y3
        have q0 := cell_regrown x0
        have q1 := cell_regrown x1
        have q2 := cell_regrown x2
        have q3 := cell_regrown x3
        obtain ⟨k1, k2, k3⟩ := HKS.out
        refine wp_region_quiet_below (by kernel_rfl) (by kernel_rfl) ?_
        repeat (quiet_step (first | with_reducible exact k1 _ _ | with_reducible exact k2 _ _ | with_reducible exact k3 _ _))
        refine wpQuiet_nil ?_
        intro _ hw'
        obtain ⟨⟨dq, osq⟩, hw''⟩ := hw'
        subst hw''
        have HBQ := Lib.hid (HBR.out.trans ((below_regrown wr dq osq).mono HBR.out.size))
        have HTQ := Lib.hid (HTR.out.below (below_regrown wr dq osq))
        clear i0 i1 i2 i3 j0 j1 j2 j3 q0 q1 q2 q3 c0 c1 c2 c3 y0 y1 y2 y3 x0 x1 x2 x3 k1 k2 k3 HKS HBR HTR
        generalize Go.Sort.grow (redrawn wr dq) osq = w7 at *
        go_wp2
        go_ret
        exact ⟨rfl, HB0.out.trans (HBQ.out.mono HB0.out.size)⟩
      case false =>
      cases a3
      case true =>
        go_wp2_with fail
        have i0 := cell_regrown c0
        have i1 := cell_regrown c1
        have i2 := cell_regrown c2
        have i3 := cell_regrown c3
        have j0 := cell_regrown y0
        have j1 := cell_regrown y1
        have j2 := cell_regrown y2
        have j3 := cell_regrown y3
        have q0 := cell_regrown x0
        have q1 := cell_regrown x1
        have q2 := cell_regrown x2
        have q3 := cell_regrown x3
        obtain ⟨k1, k2, k3⟩ := HKS.out
        refine wp_region_quiet_below (by kernel_rfl) (by kernel_rfl) ?_
        repeat (quiet_step (first | with_reducible exact k1 _ _ | with_reducible exact k2 _ _ | with_reducible exact k3 _ _))
        refine wpQuiet_nil ?_
        intro _ hw'
        obtain ⟨⟨dq, osq⟩, hw''⟩ := hw'
        subst hw''
        have HBQ := Lib.hid (HBR.out.trans ((below_regrown wr dq osq).mono HBR.out.size))
        have HTQ := Lib.hid (HTR.out.below (below_regrown wr dq osq))
        clear i0 i1 i2 i3 j0 j1 j2 j3 q0 q1 q2 q3 c0 c1 c2 c3 y0 y1 y2 y3 x0 x1 x2 x3 k1 k2 k3 HKS HBR HTR
        generalize Go.Sort.grow (redrawn wr dq) osq = w7 at *
        go_wp2
        go_ret
        exact ⟨rfl, HB0.out.trans (HBQ.out.mono HB0.out.size)⟩
      case false =>
      go_wp2_with fail
      have i0 := cell_regrown c0
      have i1 := cell_regrown c1
      have i2 := cell_regrown c2
      have i3 := cell_regrown c3
      have j0 := cell_regrown y0
      have j1 := cell_regrown y1
      have j2 := cell_regrown y2
      have j3 := cell_regrown y3
      have q0 := cell_regrown x0
      have q1 := cell_regrown x1
      have q2 := cell_regrown x2
      have q3 := cell_regrown x3
      obtain ⟨k1, k2, k3⟩ := HKS.out
      refine wp_region_quiet_below (by kernel_rfl) (by kernel_rfl) ?_
      repeat (quiet_step (first | with_reducible exact k1 _ _ | with_reducible exact k2 _ _ | with_reducible exact k3 _ _))
      refine wpQuiet_nil ?_
      intro _ hw'
      obtain ⟨⟨dq, osq⟩, hw''⟩ := hw'
      subst hw''
      have HBQ := Lib.hid (HBR.out.trans ((below_regrown wr dq osq).mono HBR.out.size))
      have HTQ := Lib.hid (HTR.out.below (below_regrown wr dq osq))
      clear i0 i1 i2 i3 j0 j1 j2 j3 q0 q1 q2 q3 c0 c1 c2 c3 y0 y1 y2 y3 x0 x1 x2 x3 k1 k2 k3 HKS HBR HTR
      have HRW := Lib.hid (rep_below HX0.out.2 (below_regrown wr dq osq) (fun i hi => Nat.lt_of_lt_of_le (HLO.out i hi) HT2.out.bel.size))
      obtain ⟨b', o', k', s', p', y', C', cy', hA, hSb', hx', x0, x1, x2, x3, hrep'⟩ := trow_get HRL.out HBQ.out HLO.out hlt1
      injection hA with hA
      injection hA with eb eo
      subst eb eo
      generalize Go.Sort.grow (redrawn wr dq) osq = w7 at *
      have hxe : Tm.mk k' s' p' y' = .mk k s p y := by
        have h1 := HX1.out
        rw [List.take_succ_eq_append_getElem hlt1, hx'] at h1
        exact List.singleton_inj.1 (List.append_cancel_left h1)
      injection hxe with ek es ep ey
      subst ek es ep ey
      have hL1 := HTQ.out.learn HT.out (.mk k' s' p' y') (Lo U) _ hrep' (fun i hi => Nat.lt_of_lt_of_le (HLO.out i hi) HBQ.out.size) (120 * (i + 1)) (by have := HX0.out.1; omega) (by omega)
      have HL1 := Lib.hid hL1
      have HN2 : Hid (∀ x ∈ l.take (i + 1), NoS (Tm.mk 2 at' an al) (Tm.mk 2 gt gn gl) x) := fun x hx => by
        rw [HX1.out, List.mem_append, List.mem_singleton] at hx
        rcases hx with hx | rfl
        · exact HNS.out x hx
        · exact ⟨HA.out.1.symm, HA.out.2.1.symm, HA.out.2.2.symm⟩
      clear hL1 hx' hrep' HX0 HA HRW HNS HT2 HTQ
      go_wp2_with fail
      refine HL1.out.mono ?_
      rintro _ w8 ⟨rfl, ht8⟩
      have HT8 := Lib.hid (ht8.congr (hs_step _ _ _ (fun z => by show _ ↔ (z ∈ l.take (i + 1) ∧ vld 0 z = true); rw [HX1.out, List.mem_append, List.mem_singleton])) (Nat.le_refl _))
      clear ht8 HL1 x0 x1 x2 x3 HX1
      go_wp2
      go_roundw
      case rel => exact ⟨i + 1, by omega, by go_num, HT8, HN2⟩
      case measure => simp [intOf] <;> omega
    · obtain rfl : i = m := by omega
      have HNK := Lib.hid (nos_known (H := hs l) (a := (Tm.mk 2 at' an al)) (b := (Tm.mk 2 gt gn gl)) (fun x hx => HNS.out x (by rw [List.take_of_length_le (by rw [← HM.out]; exact Nat.le_refl _)]; exact hx.1)))
      have HT3 : Hid (Sole V g1 d1 e1 (hs l) (120 * i) wr) := HT2.out.congr (fun y => by rw [List.take_of_length_le (by rw [← HM.out]; exact Nat.le_refl _)]) (Nat.le_refl _)
      have hil : ¬ (i : Int) < (i : Int) := by omega
      have HBR := Lib.hid HT2.out.bel
      obtain ⟨F1, TT, fz, st, hs1, hk1⟩ := HT3.out.known
      have HST := Lib.hid hs1
      have hna : (Tm.mk 2 at' an al) ∉ st.kn := fun h => HNK.out.1 ((hk1 _).1 h)
      have hng : (Tm.mk 2 gt gn gl) ∉ st.kn := fun h => HNK.out.2 ((hk1 _).1 h)
      have HNA := Lib.hid hna
      have HNG := Lib.hid hng
      have I1 : InR 1 := ⟨by omega, by omega⟩
      have I0 : InR 0 := ⟨by omega, by omega⟩
      clear hna hng hs1 hk1 HT2 HTW hlt HNS HNK
      go_wp2_with fail
      refine wp_region_inv (by kernel_rfl) (fun L act W => ∃ t81 t82 t83 t10, act = { tmps := #[.slice A i ca, .agg #[.int .i64 2, .string ⟨⟨at'⟩⟩, .int .i64 an, .slice SA al.length sc], .agg #[.int .i64 2, .string ⟨⟨gt⟩⟩, .int .i64 gn, .slice GA gl.length gc], undef, .pointer (some ⟨z, 0, none⟩), .pointer (some ⟨z + 1, 0, none⟩), u6, .bool true, .pointer (some ⟨g1, 0, none⟩), .int .i64 (i : Nat), t10, .bool true, .bool true, .bool false, .slice A i ca, .bool false, .bool false, .pointer (some ⟨z, 0, none⟩), .int .i64 2, .bool false, .bool false, .bool false, .pointer (some ⟨z + 1, 0, none⟩), .int .i64 2, .bool false, .bool false, .bool false, .agg #[.int .i64 2, .string ⟨⟨at'⟩⟩, .int .i64 an, .slice SA al.length sc], .bool true, .bool false, .bool false, .bool false, .agg #[.int .i64 2, .string ⟨⟨gt⟩⟩, .int .i64 gn, .slice GA gl.length gc], .bool true, .bool false, .bool false, .bool false, .agg #[.int .i64 2, .string ⟨⟨at'⟩⟩, .int .i64 an, .slice SA al.length sc], .agg #[.int .i64 2, .string ⟨⟨gt⟩⟩, .int .i64 gn, .slice GA gl.length gc], .bool false, .bool false, undef, .pointer (some ⟨g1, 0, none⟩), .int .i64 (i : Nat), .slice A i ca, .int .i64 (i : Nat), .bool false, u47, u48, u49, u50, u51, u52, u53, u54, u55, u56, u57, u58, u59, u60, u61, u62, u63, u64, u65, u66, u67, u68, u69, u70, u71, u72, u73, u74, u75, u76, u77, u78, u79, u80, t81, t82, t83, undef, undef, undef, undef, undef, undef, undef, undef, undef, undef, undef, undef, undef, undef, undef, undef, undef, undef, undef, undef, undef, undef], defers := [] } ∧ (L 0 = true → (.agg #[.int .i64 2, .string ⟨⟨gt⟩⟩, .int .i64 gn, .slice GA gl.length gc] : Value) = t81) ∧ (L 1 = true → (.agg #[.int .i64 1, .string ⟨#[]⟩, .int .i64 0, .slice none 0 0] : Value) = t82) ∧ (Below wr.heap.size wr W) ∧ (L 2 = true → L 4 = false → ∃ (u : Nat) (S : Nat → Prop), t83 = .agg #[.int .i64 4, .string ⟨#[]⟩, .int .i64 1, .slice (some ⟨u, 0, none⟩) 2 2] ∧ Rep W S (Tm.mk 4 [] 1 [(Tm.mk 2 gt gn gl), Tm.mk 1 [] 0 []]) t83 ∧ (∀ b, S b → b < W.heap.size) ∧ (L 3 = true → ∀ h, t10 = .pointer (some ⟨h, 0, none⟩) → ¬ S h)) ∧ (L 3 = true → L 4 = false → ∃ h, t10 = .pointer (some ⟨h, 0, none⟩) ∧ wr.heap.size ≤ h ∧ W.heap[h]? = some (.cells #[.int .i64 0, .string ⟨#[]⟩, .int .i64 0, .slice none 0 0] 33 (0, 0))) ∧ (L 4 = true → ∃ (h u : Nat), t10 = .pointer (some ⟨h, 0, none⟩) ∧ W.heap[h]? = some (.cells #[.int .i64 4, .string ⟨#[]⟩, .int .i64 1, .slice (some ⟨u, 0, none⟩) 2 2] 33 (0, 0)) ∧ Rep W (Lo W) (Tm.mk 4 [] 1 [(Tm.mk 2 gt gn gl), Tm.mk 1 [] 0 []]) (.agg #[.int .i64 4, .string ⟨#[]⟩, .int .i64 1, .slice (some ⟨u, 0, none⟩) 2 2])) ∧ (L 4 = true → L 2 = true) ∧ (L 4 = true → L 3 = true) ∧ (L 2 = true → L 1 = true)) (by kernel_rfl) ?_ ?_ ?_
      · exact ⟨_, _, _, _, rfl, nofun, nofun, (Below.refl _ _).drew, nofun, nofun, nofun, nofun, nofun, nofun⟩
      · rintro L _ W i oo ⟨t81, t82, t83, t10, rfl, f0, f1, qb, g2, g3, g4, r4, r5, r2⟩ ho hL hd
        rcases i with _ | _ | _ | _ | _ | i
        · obtain rfl := Option.some.inj ho
          obtain ⟨y0, y1, y2, y3⟩ := HC1.out W (HBR.out.trans (qb.mono HBR.out.size))
          refine wpOp_step rfl fun K hK => ?_
          have F0X := Lib.hid f0
          have F1X := Lib.hid f1
          have QBX := Lib.hid qb
          have G2X := Lib.hid g2
          have G3X := Lib.hid g3
          have G4X := Lib.hid g4
          have R4X := Lib.hid r4
          have R5X := Lib.hid r5
          have R2X := Lib.hid r2
          clear f0 f1 qb g2 g3 g4 r4 r5 r2 hd ho hL
          go_simp
          refine hK _ _ ?_
          exact ⟨_, _, _, _, rfl, fun _ => rfl, F1X.out, QBX.out, G2X.out, G3X.out, G4X.out, R4X.out, R5X.out, R2X.out⟩
        · obtain rfl := Option.some.inj ho
          have h2 : L 2 = false := by cases hq : L 2 with | false => rfl | true => (have := r2 hq; simp [hL] at this)
          have H2 := Lib.hid h2
          clear h2
          have HC := Lib.hid (Num_any 0 W)
          refine wpOp_step rfl fun K hK => ?_
          have F0X := Lib.hid f0
          have F1X := Lib.hid f1
          have QBX := Lib.hid qb
          have G2X := Lib.hid g2
          have G3X := Lib.hid g3
          have G4X := Lib.hid g4
          have R4X := Lib.hid r4
          have R5X := Lib.hid r5
          have R2X := Lib.hid r2
          clear f0 f1 qb g2 g3 g4 r4 r5 r2 hd ho hL
          go_simp
          refine HC.out.mono ?_
          rintro _ w1 ⟨rfl, hb1⟩
          refine hK _ _ ?_
          exact ⟨_, _, _, _, rfl, F0X.out, fun _ => rfl, QBX.out.trans (hb1.mono QBX.out.size), fun h => absurd (show L 2 = true from h) (by simp [H2.out]), fun h h4 => (by obtain ⟨h1, e1, e2, e3⟩ := G3X.out h h4; exact ⟨h1, e1, e2, (hb1.block h1 (Array.getElem?_eq_some_iff.1 e3).1).trans e3⟩), fun h => absurd (R4X.out h) (by simp [H2.out]), R4X.out, R5X.out, fun _ => rfl⟩
        · obtain rfl := Option.some.inj ho
          have l0 := hd ⟨0, .data⟩ (by simp) rfl
          have l1 := hd ⟨1, .data⟩ (by simp) rfl
          obtain rfl := f0 l0
          obtain rfl := f1 l1
          have h4 : L 4 = false := by cases hq : L 4 with | false => rfl | true => (have := r4 hq; simp [hL] at this)
          have H4 := Lib.hid h4
          clear h4
          have hyS := rep_below HRY.out (HBR.out.trans (qb.mono HBR.out.size)) HLO.out
          have L1X := Lib.hid l1
          have hSz : ∀ b, Lo U b → b < W.heap.size := fun i hi => Nat.lt_of_lt_of_le (HLO.out i hi) (Nat.le_trans HBR.out.size qb.size)
          have HSZ := Lib.hid hSz
          have HC := Lib.hid (Seal_any (Tm.mk 2 gt gn gl) (.mk 1 [] 0 []) _ _ 1 (Lo U) W hyS (rep_flat W (Lo U) 1 [] 0 I0) hSz)
          refine wpOp_step rfl fun K hK => ?_
          have F0X := Lib.hid f0
          have F1X := Lib.hid f1
          have QBX := Lib.hid qb
          have G2X := Lib.hid g2
          have G3X := Lib.hid g3
          have G4X := Lib.hid g4
          have R4X := Lib.hid r4
          have R5X := Lib.hid r5
          have R2X := Lib.hid r2
          clear f0 f1 qb g2 g3 g4 r4 r5 r2 hd ho hL l0 l1 hyS hSz
          go_simp
          refine HC.out.mono ?_
          rintro _ w1 ⟨u, rfl, hb1, hnr⟩
          refine hK _ _ ?_
          have hnr2 := hnr
          obtain ⟨gg, xs, rfl, hx1, hx2, hx3⟩ := hnr2
          exact ⟨_, _, _, _, rfl, F0X.out, F1X.out, QBX.out.trans (hb1.mono QBX.out.size), fun _ _ => ⟨gg, fun b => Lo U b ∨ (W.heap.size ≤ b ∧ b < w1.heap.size), rfl, nrow_rep hnr (fun b h => .inl h) (fun _ _ => rfl) (fun g h1 h2 => .inr ⟨h1, h2⟩) 4 [] 1 I1, fun b hb => hb.elim (fun h => Nat.lt_of_lt_of_le (HSZ.out b h) hb1.size) (·.2), fun h3 h hh hS => by obtain ⟨h1, e1, e2, e3⟩ := G3X.out h3 H4.out; rw [e1] at hh; injection hh with hh; injection hh with hh; injection hh with hh; subst hh; have hlt := (Array.getElem?_eq_some_iff.1 e3).1; rcases hS with hS | hS; (have := HLO.out _ hS; have := HBR.out.size; omega); omega⟩, fun h h4 => (by obtain ⟨h1, e1, e2, e3⟩ := G3X.out h h4; exact ⟨h1, e1, e2, (hb1.block h1 (Array.getElem?_eq_some_iff.1 e3).1).trans e3⟩), fun h => absurd (show L 4 = true from h) (by simp [H4.out]), fun _ => rfl, R5X.out, fun _ => L1X.out⟩
        · obtain rfl := Option.some.inj ho
          have h4 : L 4 = false := by cases hq : L 4 with | false => rfl | true => (have := r5 hq; simp [hL] at this)
          have H4 := Lib.hid h4
          clear h4
          refine wpOp_step rfl fun K hK => ?_
          have F0X := Lib.hid f0
          have F1X := Lib.hid f1
          have QBX := Lib.hid qb
          have G2X := Lib.hid g2
          have G3X := Lib.hid g3
          have G4X := Lib.hid g4
          have R4X := Lib.hid r4
          have R5X := Lib.hid r5
          have R2X := Lib.hid r2
          clear f0 f1 qb g2 g3 g4 r4 r5 r2 hd ho hL
          go_simp
          refine hK _ _ ?_
          exact ⟨_, _, _, _, rfl, F0X.out, F1X.out, QBX.out.trans (((Below.refl W.heap.size W).alloc (Nat.le_refl _) _).mono QBX.out.size), fun h _ => (by obtain ⟨u, S, e1, e2, e3, e4⟩ := G2X.out h H4.out; exact ⟨u, S, e1, rep_alloc e2 _ (fun b hb => ⟨e3 b hb, hb⟩), fun b hb => (by have := e3 b hb; simp; omega), fun _ h hh hS => (by injection hh with hh; injection hh with hh; injection hh with hh; subst hh; exact Nat.lt_irrefl _ (e3 _ hS))⟩), fun _ _ => ⟨_, rfl, QBX.out.size, heap_alloc_new W _⟩, fun h => absurd (show L 4 = true from h) (by simp [H4.out]), R4X.out, fun _ => rfl, R2X.out⟩
        · obtain rfl := Option.some.inj ho
          have l2 := hd ⟨2, .data⟩ (by simp) rfl
          have l3 := hd ⟨3, .data⟩ (by simp) rfl
          obtain ⟨u, S, rfl, hrp, hSlt, hSn⟩ := g2 l2 hL
          obtain ⟨h, rfl, hle, hcl⟩ := g3 l3 hL
          have hnS := hSn l3 h rfl
          have L2X := Lib.hid l2
          have L3X := Lib.hid l3
          have hfz := fun k => frozen_of_row _ _ k _ _ hcl
          obtain ⟨x0, x1, x2, x3⟩ := cell4 hcl
          have HRP := Lib.hid (And.intro hrp (And.intro hSlt (And.intro hle (And.intro hcl hnS))))
          refine wpOp_step rfl fun K hK => ?_
          have F0X := Lib.hid f0
          have F1X := Lib.hid f1
          have QBX := Lib.hid qb
          have G2X := Lib.hid g2
          have G3X := Lib.hid g3
          have G4X := Lib.hid g4
          have R4X := Lib.hid r4
          have R5X := Lib.hid r5
          have R2X := Lib.hid r2
          clear f0 f1 qb g2 g3 g4 r4 r5 r2 hd ho hL l2 l3 hrp hSlt hle hcl hnS hSn
          go_simp
          refine hK _ _ ?_
          rw [set4 HRP.out.2.2.2.1]
          exact ⟨_, _, _, _, rfl, F0X.out, F1X.out, below_setRow4 QBX.out HRP.out.2.2.1 _, nofun, nofun, fun _ => ⟨h, u, rfl, setRow_heap _ _ _ _ _ _ HRP.out.2.2.2.1, rep_keep (fun b hb => by show b < _; rw [setRow_size]; exact HRP.out.2.1 b hb) (fun b o hb => World.cell?_of_block (setRow_other _ _ _ _ (fun e => HRP.out.2.2.2.2 (by rw [← (show b = h from e)]; exact hb)))) _ _ HRP.out.1⟩, fun _ => L2X.out, fun _ => L3X.out, R2X.out⟩
        · simp at ho
      · rintro L _ W ⟨t81, t82, t83, t10, rfl, f0, f1, qb, g2, g3, g4, r4, r5, r2⟩ hall
        obtain rfl := f0 (hall 0 (by decide))
        obtain rfl := f1 (hall 1 (by decide))
        obtain ⟨h, gg, rfl, hc, hrp⟩ := g4 (hall 4 (by decide))
        have hbm := HBR.out.trans (qb.mono HBR.out.size)
        obtain ⟨c, hcc⟩ : ∃ c, c = (vld 0 (Tm.mk 4 [] 1 [(Tm.mk 2 gt gn gl), Tm.mk 1 [] 0 []]) && can st.kn (Tm.mk 4 [] 1 [(Tm.mk 2 gt gn gl), Tm.mk 1 [] 0 []])) := ⟨_, rfl⟩
        have hcd : (vld 0 (Tm.mk 4 [] 1 [(Tm.mk 2 gt gn gl), Tm.mk 1 [] 0 []]) && decide ((Tm.mk 4 [] 1 [(Tm.mk 2 gt gn gl), Tm.mk 1 [] 0 []]) ∈ st.kn)) = c := by rw [hcc, can_seal HNG.out]
        have hsm : sz (Tm.mk 4 [] 1 [(Tm.mk 2 gt gn gl), Tm.mk 1 [] 0 []]) ≤ 262144 := by have := HSY2.out; simp only [sz, Te.Tt.szs] at this ⊢; omega
        have kA : ∀ d os, Calls Tryd.prog 16 #[.pointer (some ⟨g1, 0, none⟩), .agg #[.int .i64 2, .string ⟨⟨at'⟩⟩, .int .i64 an, .slice SA al.length sc]] (Go.Sort.grow (redrawn W d) os) fun e w'' => e = .returned (.bool false) ∧ ∃ p : Regrown, w'' = Go.Sort.grow (redrawn W p.d) p.os := fun d os => by
          have hbg := below_regrown W d os
          have hbv := hbm.trans (hbg.mono hbm.size)
          have hk := Knows_any _ F1 g1 d1 e1 TT fz st (HST.out.below (qb.trans (hbg.mono qb.size))) (HT.out.up hbv) _ (Lo U) _ (rep_below HRX.out hbv HLO.out) (fun i hi => Nat.lt_of_lt_of_le (HLO.out i hi) hbv.size) HSX.out
          rw [decide_eq_false HNA.out, Bool.and_false] at hk
          exact Calls.regrown_of hk
        have kB : ∀ d os, Calls Tryd.prog 16 #[.pointer (some ⟨g1, 0, none⟩), .agg #[.int .i64 2, .string ⟨⟨gt⟩⟩, .int .i64 gn, .slice GA gl.length gc]] (Go.Sort.grow (redrawn W d) os) fun e w'' => e = .returned (.bool false) ∧ ∃ p : Regrown, w'' = Go.Sort.grow (redrawn W p.d) p.os := fun d os => by
          have hbg := below_regrown W d os
          have hbv := hbm.trans (hbg.mono hbm.size)
          have hk := Knows_any _ F1 g1 d1 e1 TT fz st (HST.out.below (qb.trans (hbg.mono qb.size))) (HT.out.up hbv) _ (Lo U) _ (rep_below HRY.out hbv HLO.out) (fun i hi => Nat.lt_of_lt_of_le (HLO.out i hi) hbv.size) HSY.out
          rw [decide_eq_false HNG.out, Bool.and_false] at hk
          exact Calls.regrown_of hk
        have kC : ∀ d os, Calls Tryd.prog 17 #[.pointer (some ⟨g1, 0, none⟩), .agg #[.int .i64 4, .string ⟨#[]⟩, .int .i64 1, .slice (some ⟨gg, 0, none⟩) 2 2]] (Go.Sort.grow (redrawn W d) os) fun e w'' => e = .returned (.bool c) ∧ ∃ p : Regrown, w'' = Go.Sort.grow (redrawn W p.d) p.os := fun d os => by
          have hbg := below_regrown W d os
          have hbv := hbm.trans (hbg.mono hbm.size)
          have hk := Can_any _ F1 g1 d1 e1 TT fz st (HST.out.below (qb.trans (hbg.mono qb.size))) (HT.out.up hbv) _ (Lo W) _ (rep_below hrp hbg (fun _ h => h)) (fun i hi => Nat.lt_of_lt_of_le hi hbg.size) hsm
          rw [← hcc] at hk
          exact Calls.regrown_of hk
        have kD : ∀ d os, Calls Tryd.prog 16 #[.pointer (some ⟨g1, 0, none⟩), .agg #[.int .i64 4, .string ⟨#[]⟩, .int .i64 1, .slice (some ⟨gg, 0, none⟩) 2 2]] (Go.Sort.grow (redrawn W d) os) fun e w'' => e = .returned (.bool c) ∧ ∃ p : Regrown, w'' = Go.Sort.grow (redrawn W p.d) p.os := fun d os => by
          have hbg := below_regrown W d os
          have hbv := hbm.trans (hbg.mono hbm.size)
          have hk := Knows_any _ F1 g1 d1 e1 TT fz st (HST.out.below (qb.trans (hbg.mono qb.size))) (HT.out.up hbv) _ (Lo W) _ (rep_below hrp hbg (fun _ h => h)) (fun i hi => Nat.lt_of_lt_of_le hi hbg.size) hsm
          rw [hcd] at hk
          exact Calls.regrown_of hk
        have HKS := Lib.hid (And.intro kA (And.intro kB (And.intro kC kD)))
        have HBM := Lib.hid hbm
        obtain ⟨c0, c1, c2, c3⟩ := HC0.out W hbm
        obtain ⟨y0, y1, y2, y3⟩ := HC1.out W hbm
        obtain ⟨x0, x1, x2, x3⟩ := cell4 hc
        clear qb g2 g3 g4 r4 r5 r2 hall hc hrp hbm hcc hcd hsm kA kB kC kD
        go_wp2_with fail
        have i0 := cell_regrown c0
        have i1 := cell_regrown c1
        have i2 := cell_regrown c2
        have i3 := cell_regrown c3
        have j0 := cell_regrown y0
        have j1 := cell_regrown y1
        have j2 := cell_regrown y2
        have j3 := cell_regrown y3
        have q0 := cell_regrown x0
        have q1 := cell_regrown x1
        have q2 := cell_regrown x2
        have q3 := cell_regrown x3
        obtain ⟨kA, kB, kC, kD⟩ := HKS.out
        refine wp_region_quiet_below (by kernel_rfl) (by kernel_rfl) ?_
        repeat (quiet_step (first | with_reducible exact kA _ _ | with_reducible exact kB _ _ | with_reducible exact kC _ _ | with_reducible exact kD _ _))
        refine wpQuiet_nil ?_
        intro _ hw'
        obtain ⟨⟨dq, osq⟩, hw''⟩ := hw'
        subst hw''
        have HBX := Lib.hid (HBM.out.trans ((below_regrown W dq osq).mono HBM.out.size))
        clear i0 i1 i2 i3 j0 j1 j2 j3 q0 q1 q2 q3 c0 c1 c2 c3 y0 y1 y2 y3 x0 x1 x2 x3 kA kB kC kD HKS HBM
        generalize Go.Sort.grow (redrawn W dq) osq = w9 at *
        go_wp2
        go_ret
        exact ⟨by cases c <;> rfl, HB0.out.trans (HBX.out.mono HB0.out.size)⟩
end Go.Proofs.YtiidooponlbnmaaDoor.Kn
