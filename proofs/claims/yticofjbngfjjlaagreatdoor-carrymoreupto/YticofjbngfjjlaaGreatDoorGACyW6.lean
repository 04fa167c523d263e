/- carry: packSum. (Laid with NS=1; written by wip/tools/gen/cyw6.py.) -/
import Derived.Test.YticofjbngfjjlaaGreatDoorGACtW3
import Derived.Test.YticofjbngfjjlaaGreatDoorGAHmW3
namespace Go.Proofs.YticofjbngfjjlaaGreatDoor.Cy
open Go.RowKit
open Te Te.Tt
open Wi.Wr (It wr wrs)

theorem set5_other {W : World} {g k : Nat} {v0 v1 v2 v3 v4 : Value} (h : k ≠ g) : (((((W.setCell ⟨g, 0, none⟩ v0).setCell ⟨g, 1, none⟩ v1).setCell ⟨g, 2, none⟩ v2).setCell ⟨g, 3, none⟩ v3).setCell ⟨g, 4, none⟩ v4).heap[k]? = W.heap[k]? := by
  rw [heap_setCell_other _ _ _ _ h, heap_setCell_other _ _ _ _ h, heap_setCell_other _ _ _ _ h, heap_setCell_other _ _ _ _ h, heap_setCell_other _ _ _ _ h]
theorem set5_self {W : World} {g : Nat} {v0 v1 v2 v3 v4 a0 a1 a2 a3 a4 : Value} {T : TypeId} (h : W.heap[g]? = some (.cells #[a0, a1, a2, a3, a4] T (0, 0))) : (((((W.setCell ⟨g, 0, none⟩ v0).setCell ⟨g, 1, none⟩ v1).setCell ⟨g, 2, none⟩ v2).setCell ⟨g, 3, none⟩ v3).setCell ⟨g, 4, none⟩ v4).heap[g]? = some (.cells #[v0, v1, v2, v3, v4] T (0, 0)) := by
  rw [heap_setCell_same _ _ _ _ _ _ (heap_setCell_same _ _ _ _ _ _ (heap_setCell_same _ _ _ _ _ _ (heap_setCell_same _ _ _ _ _ _ (heap_setCell_same _ _ _ _ _ _ h))))]
  rfl
theorem set5_size {W : World} {g : Nat} {v0 v1 v2 v3 v4 : Value} : (((((W.setCell ⟨g, 0, none⟩ v0).setCell ⟨g, 1, none⟩ v1).setCell ⟨g, 2, none⟩ v2).setCell ⟨g, 3, none⟩ v3).setCell ⟨g, 4, none⟩ v4).heap.size = W.heap.size := by simp [World.setCell]
theorem set5_below {B g : Nat} {w W : World} {v0 v1 v2 v3 v4 : Value} (h : Below B w W) (hg : B ≤ g) : Below B w (((((W.setCell ⟨g, 0, none⟩ v0).setCell ⟨g, 1, none⟩ v1).setCell ⟨g, 2, none⟩ v2).setCell ⟨g, 3, none⟩ v3).setCell ⟨g, 4, none⟩ v4) :=
  ((((h.setCell (p := ⟨_, 0, none⟩) hg _).setCell (p := ⟨_, 1, none⟩) hg _).setCell (p := ⟨_, 2, none⟩) hg _).setCell (p := ⟨_, 3, none⟩) hg _).setCell (p := ⟨_, 4, none⟩) hg _

theorem rep3 {V : World} {S S' : Nat → Prop} {h : Nat} {a s2 sv : List UInt8} {nd : Bool} {tg : Int} {A : Option Addr} {m ca : Nat} {y : It} {T : TypeId}
    (h1 : V.heap[h]? = some (.cells #[.bool false, .int .i64 2, .string ⟨⟨a⟩⟩, .slice none 0 0, .bool nd, .int .i64 tg, .string ⟨⟨sv⟩⟩, .slice A m ca, .bool false, .int .i64 7, .string ⟨⟨s2⟩⟩, .slice none 0 0] T (0, 0)))
    (h2 : Wi.Rep V S y (.agg #[.bool nd, .int .i64 tg, .string ⟨⟨sv⟩⟩, .slice A m ca])) (hS : ∀ b, S b → S' b) (hh : S' h) :
    Wi.Rep V S' (.mk true 6 [] [leaf 2 a, y, leaf 7 s2]) (.agg #[.bool true, .int .i64 6, .string ⟨⟨[]⟩⟩, .slice (some ⟨h, 0, none⟩) 3 3]) := by
  have hc := fun j => cell_of_row V h j _ _ _ h1
  refine Wi.rep_mk.2 ⟨some ⟨h, 0, none⟩, 3, rfl, .inr ⟨h, 0, rfl, hh, ?_⟩⟩
  simp only [Wi.Reps]
  refine ⟨⟨_, _, _, _, (hc 0).trans rfl, (hc 1).trans rfl, (hc 2).trans rfl, (hc 3).trans rfl, Wi.rep_mk.2 ⟨none, 0, rfl, .inl rfl⟩⟩, ⟨_, _, _, _, (hc 4).trans rfl, (hc 5).trans rfl, (hc 6).trans rfl, (hc 7).trans rfl, Wi.rep_keep hS (fun _ _ _ => rfl) _ _ h2⟩, ⟨_, _, _, _, (hc 8).trans rfl, (hc 9).trans rfl, (hc 10).trans rfl, (hc 11).trans rfl, Wi.rep_mk.2 ⟨none, 0, rfl, .inl rfl⟩⟩, trivial⟩

set_option maxHeartbeats 1000000 in
set_option maxRecDepth 100000 in
theorem packSum_any (c : List UInt8) (hc : c.length ≤ 10000) (n : Int) (y0 y1 : Tm) (ih : PackSaid c y1) (d : Nat) (S : Nat → Prop) (v : Value) (w : World) (hv : vld d (.mk 5 [] n [y0, y1]) = true) (hsz : sz (.mk 5 [] n [y0, y1]) ≤ 100) (HT : Tabs w) (htab : TabB w.heap.size w)
    (hr : Rep w S (.mk 5 [] n [y0, y1]) v) (hS : ∀ b, S b → b < w.heap.size) :
    Calls Tryz.prog 65 #[v, .string ⟨⟨c⟩⟩] w (PackPost c (.mk 5 [] n [y0, y1]) w) := by
  obtain ⟨A, ca, rfl, hn, hrow⟩ := rep_mk.1 hr
  obtain ⟨hmis, hall⟩ := vld_own hv
  have hn2 := mis_use (.inr rfl) hmis
  rcases hrow with h | ⟨b, o, rfl, hSb, hreps⟩
  · cases h
  obtain ⟨p0, p1, p2, p3, c0, c1, c2, c3, hr0⟩ := reps_at [y0, y1] b o 0 _ hreps rfl
  obtain ⟨q0, q1, q2, q3, c4, c5, c6, c7, hr1⟩ := reps_at [y0, y1] b o 1 _ hreps rfl
  obtain ⟨m1, -, hm1, hm2, -⟩ := pk_puts c y1 (d + 1) (hall y1 (by simp)) (by simp only [sz, szs] at hsz; have := sz_pos y0; omega)
  have hv0 := hall y0 (by simp)
  obtain ⟨O, hO⟩ : ∃ O, O = wr (pk c y1) := ⟨_, rfl⟩
  rw [← hO] at hm2
  obtain ⟨k0, s0, n0, l0⟩ := y0
  have hs0 := vld_s hv0
  obtain ⟨A0, ca0, he, -⟩ := rep_mk.1 hr0
  injection he with he
  simp at he
  obtain ⟨rfl, rfl, rfl, rfl⟩ := he
  simp only [Nat.zero_mul, Nat.one_mul, Nat.add_zero] at c0 c1 c2 c3 c4 c5 c6 c7
  have hbS := hS b hSb
  have hb2 : Below w.heap.size w ((w.alloc (.cells #[.int .i64 5, .string ⟨⟨[]⟩⟩, .int .i64 n, .slice (some ⟨b, o, none⟩) 2 ca] 25)).alloc (.cells #[.bool false, .int .i64 0, .string ⟨⟨[]⟩⟩, .slice none 0 0, .string ⟨⟨[]⟩⟩] 66)) := ((Below.refl _ _).alloc (Nat.le_refl _) _).alloc (by simp) _
  have hs2 : sz y1 ≤ 99 := by simp only [sz, szs] at hsz; omega
  have HIH : Hid (∀ W, Tabs W → TabB W.heap.size W → Rep W S y1 (.agg #[q0, q1, q2, q3]) → (∀ b, S b → b < W.heap.size) → Calls Tryz.prog 31 #[.agg #[q0, q1, q2, q3], .string ⟨⟨c⟩⟩] W fun e w' => ∃ (nd : Bool) (tg : Int) (sv : List UInt8) (A : Option Addr) (m ca : Nat), e = .returned (.tuple #[.agg #[.bool nd, .int .i64 tg, .string ⟨⟨sv⟩⟩, .slice A m ca, .string ⟨⟨O⟩⟩], .int .i64 0]) ∧ Wi.Rep w' (Wi.New W.heap.size w') (pk c y1) (.agg #[.bool nd, .int .i64 tg, .string ⟨⟨sv⟩⟩, .slice A m ca]) ∧ Below W.heap.size W w') := fun W h1 h2 h3 h4 => (ih (d + 1) S (.agg #[q0, q1, q2, q3]) W (hall y1 (by simp)) (by omega) h1 h2 h3 h4).mono fun _ _ ⟨nd, tg, sv, A, m, ca, he, hrp, hb⟩ => ⟨nd, tg, sv, A, m, ca, by rw [he, hO], hrp, hb⟩
  have HV : Hid (vld d (.mk 5 [] n [.mk k0 s0 n0 l0, y1]) = true ∧ sz (.mk 5 [] n [.mk k0 s0 n0 l0, y1]) ≤ 100) := ⟨hv, hsz⟩
  obtain ⟨X, hX⟩ : ∃ X, X = (Tm.mk 5 [] n [.mk k0 s0 n0 l0, y1]) := ⟨_, rfl⟩
  have hpk : pk c X = .mk true 6 [] [leaf 2 (nm8 n), pk c y1, leaf 7 (Sl.chk (kb c s0 n0) n O)] := by rw [hX, hO, pk]; rfl
  have HPK := Lib.hid hpk
  obtain ⟨pm, hpm, hpm2, hpm3, hpm4⟩ := pk_puts c X d (by rw [hX]; exact hv) (by rw [hX]; exact hsz)
  rw [← hX]
  have HPW := Lib.hid hO
  clear hpk hX ih hall hmis hreps hv hsz hr hO HPW
  go_enter Tryz.func65, Tryz.ntmps65
  go_wp2_with fail
  refine (HIH.out _ ?_ ?_ ?_ ?_).mono ?_
  · exact Tabs.below HT hb2
  · exact htab.up hb2
  · exact rep_below hr1 hb2 hS
  · exact fun b hb => Nat.lt_of_lt_of_le (hS b hb) hb2.size
  rintro _ wb ⟨nd, tg, sv, A1, m3, ca1, rfl, hrp1, b1⟩
  obtain ⟨hc1, hf1⟩ := Wi.bcell b1
  have b2 : Below w.heap.size w wb := hb2.trans (b1.mono hb2.size)
  have hw1 : w.heap.size + 2 ≤ wb.heap.size := by have := b1.size; simp at this; omega
  go_wp2_with fail
  generalize hW : wb.alloc _ = W at *
  have b3 : Below w.heap.size w W := by rw [← hW]; exact b2.alloc (by omega) _
  have h4 : Below wb.heap.size wb W := by rw [← hW]; exact (Below.refl _ _).alloc (Nat.le_refl _) _
  have g4 : W.cell? ⟨wb.heap.size, 4, none⟩ = some (.string ⟨⟨O⟩⟩) := by
    rw [← hW, cell_of_row _ _ _ _ _ _ (heap_alloc_new _ _)]; rfl
  have gB : W.heap[w.heap.size]? = some (.cells #[.int .i64 5, .string ⟨⟨[]⟩⟩, .int .i64 n, .slice (some ⟨b, o, none⟩) 2 ca] 25 (0, 0)) := by
    rw [h4.block _ (by omega), b1.block _ (by simp; omega)]
    exact heap_alloc2_old _ _ _
  have gC : W.heap[w.heap.size + 1]? = some (.cells #[.bool false, .int .i64 0, .string ⟨⟨[]⟩⟩, .slice none 0 0, .string ⟨⟨[]⟩⟩] 66 (0, 0)) := by
    rw [h4.block _ (by omega), b1.block _ (by simp)]
    exact heap_alloc2_new _ _ _
  have gD : W.heap[wb.heap.size]? = some (.cells #[.bool nd, .int .i64 tg, .string ⟨⟨sv⟩⟩, .slice A1 m3 ca1, .string ⟨⟨O⟩⟩] 66 (0, 0)) := by
    rw [← hW]; exact heap_alloc_new _ _
  have hw1W := h4.size
  have hrpW : Wi.Rep W (Wi.New (w.heap.size + 2) wb) (pk c y1) (.agg #[.bool nd, .int .i64 tg, .string ⟨⟨sv⟩⟩, .slice A1 m3 ca1]) := Wi.rep_keep (fun _ h => ⟨by have := h.1; simp at this; omega, h.2⟩) (fun b o hb => h4.cell (p := ⟨b, o, none⟩) hb.2) _ _ hrp1
  clear hW b1 h4 hc1 hf1 hb2 hrp1
  have j0 := cell_regrown ((b3.cell (p := ⟨b, o, none⟩) hbS).trans c0)
  have j1 := cell_regrown ((b3.cell (p := ⟨b, o + 1, none⟩) hbS).trans c1)
  have j2 := cell_regrown ((b3.cell (p := ⟨b, o + 2, none⟩) hbS).trans c2)
  have j3 := cell_regrown ((b3.cell (p := ⟨b, o + 3, none⟩) hbS).trans c3)
  have j4 := cell_regrown g4
  have j5 := cell_regrown (show W.cell? ⟨w.heap.size, 0, none⟩ = some (.int .i64 5) by rw [cell_of_row _ _ _ _ _ _ gB]; rfl)
  have j6 := cell_regrown (show W.cell? ⟨w.heap.size, 1, none⟩ = some (.string ⟨⟨[]⟩⟩) by rw [cell_of_row _ _ _ _ _ _ gB]; rfl)
  have j7 := cell_regrown (show W.cell? ⟨w.heap.size, 2, none⟩ = some (.int .i64 n) by rw [cell_of_row _ _ _ _ _ _ gB]; rfl)
  have j8 := cell_regrown (show W.cell? ⟨w.heap.size, 3, none⟩ = some (.slice (some ⟨b, o, none⟩) 2 ca) by rw [cell_of_row _ _ _ _ _ _ gB]; rfl)
  have HTW := Tabs.below HT b3
  have kB : ∀ d os, Calls Tryz.prog 14 #[.agg #[.int .i64 k0, .string ⟨⟨s0⟩⟩, .int .i64 n0, .slice A0 l0.length ca0], .string ⟨⟨c⟩⟩] (Go.Sort.grow (redrawn W d) os) fun e w'' => e = .returned (.string ⟨⟨kb c s0 n0⟩⟩) ∧ ∃ p : Regrown, w'' = Go.Sort.grow (redrawn W p.d) p.os := fun d os => Calls.regrown_of (Bytes_any k0 s0 n0 A0 l0.length ca0 c _ (Tabs.below HTW (below_regrown W d os)) (by omega) hc)
  have hkl := kb_length c s0 n0
  generalize kb c s0 n0 = K at *
  have kS : ∀ d os, Calls Tryz.prog 103 #[.string ⟨⟨K⟩⟩, .int .i64 n, .string ⟨⟨O⟩⟩] (Go.Sort.grow (redrawn W d) os) fun e w'' => e = .returned (.string ⟨⟨Sl.chk K n O⟩⟩) ∧ ∃ p : Regrown, w'' = Go.Sort.grow (redrawn W p.d) p.os := fun d os => Calls.regrown_of (chkIs K O n (by omega) (by omega) _ (Tabs.below HTW (below_regrown W d os)))
  clear HIH
  refine wp_region_quiet_below (by kernel_rfl) (by kernel_rfl) ?_
  repeat (quiet_step (first | with_reducible exact kB _ _ | with_reducible exact kS _ _))
  refine wpQuiet_nil ?_
  intro _ hw'
  obtain ⟨⟨dq, osq⟩, hw''⟩ := hw'
  subst hw''
  have b4 : Below w.heap.size w (Go.Sort.grow (redrawn W dq) osq) := b3.trans ((below_regrown W dq osq).mono b3.size)
  have hWs : w.heap.size + 2 ≤ W.heap.size := by
    have := (Array.getElem?_eq_some_iff.1 gC).1
    omega
  have gB2 := ((below_regrown W dq osq).block w.heap.size (by omega)).trans gB
  have gC2 := ((below_regrown W dq osq).block (w.heap.size + 1) (by omega)).trans gC
  have gD2 := ((below_regrown W dq osq).block wb.heap.size (Array.getElem?_eq_some_iff.1 gD).1).trans gD
  have hW2s := (below_regrown W dq osq).size
  have hrp2 : Wi.Rep (Go.Sort.grow (redrawn W dq) osq) (Wi.New (w.heap.size + 2) wb) (pk c y1) (.agg #[.bool nd, .int .i64 tg, .string ⟨⟨sv⟩⟩, .slice A1 m3 ca1]) := Wi.rep_keep (fun _ h => h) (fun b o hb => (below_regrown W dq osq).cell (p := ⟨b, o, none⟩) (Nat.lt_of_lt_of_le hb.2 hw1W)) _ _ hrpW
  clear j0 j1 j2 j3 j4 j5 j6 j7 j8 kB kS gB gC gD HTW g4 b3 hrpW
  generalize Go.Sort.grow (redrawn W dq) osq = W2 at *
  clear dq osq
  have hz2 : w.heap.size + 2 ≤ W2.heap.size := by omega
  have HS1 : Hid (wb.heap.size ≤ W2.heap.size) := by rw [Hid]; omega
  have HW1 := Lib.hid hw1
  have HZ2 := Lib.hid hz2
  generalize Sl.chk K n O = SL at *
  obtain ⟨P, hP⟩ : ∃ P, P = wr (pk c X) := ⟨_, rfl⟩
  have HNUM := Lib.hid fun V => number_any n V
  have HLEAF := Lib.hid fun (t : Int) (s : List UInt8) V => leaf_any t s V
  have HNODE := Lib.hid fun (A : Option Addr) V => node_any 6 A 3 3 V
  generalize nm8 n = NM at *
  generalize pk c y1 = Y at *
  have HWR : Hid (∀ V h, V.heap[h]? = some (.cells #[.bool false, .int .i64 2, .string ⟨⟨NM⟩⟩, .slice none 0 0, .bool nd, .int .i64 tg, .string ⟨⟨sv⟩⟩, .slice A1 m3 ca1, .bool false, .int .i64 7, .string ⟨⟨SL⟩⟩, .slice none 0 0] 64 (0, 0)) → Wi.Rep V (Wi.New (w.heap.size + 2) wb) Y (.agg #[.bool nd, .int .i64 tg, .string ⟨⟨sv⟩⟩, .slice A1 m3 ca1]) → wb.heap.size ≤ V.heap.size →
      Calls Tryz.prog 60 #[.agg #[.bool true, .int .i64 6, .string ⟨⟨[]⟩⟩, .slice (some ⟨h, 0, none⟩) 3 3]] V fun e w' => e = .returned (.tuple #[.agg #[.bool true, .int .i64 6, .string ⟨⟨[]⟩⟩, .slice (some ⟨h, 0, none⟩) 3 3, .string ⟨⟨P⟩⟩], .int .i64 0]) ∧ Below V.heap.size V w') := fun V h h1 h2 h3 => by
    have := write_ok (pk c X) (fun b => b < V.heap.size) (.bool true) (.int .i64 6) (.string ⟨⟨[]⟩⟩) (.slice (some ⟨h, 0, none⟩) 3 3) V pm hpm4 (by rw [HPK.out]; exact rep3 h1 h2 (fun b hb => Nat.lt_of_lt_of_le hb.2 h3) (Array.getElem?_eq_some_iff.1 h1).1) (fun _ h => h) hpm
    rw [← hP] at this
    exact this
  have HR : Hid (∀ w' h, w'.heap[h]? = some (.cells #[.bool false, .int .i64 2, .string ⟨⟨NM⟩⟩, .slice none 0 0, .bool nd, .int .i64 tg, .string ⟨⟨sv⟩⟩, .slice A1 m3 ca1, .bool false, .int .i64 7, .string ⟨⟨SL⟩⟩, .slice none 0 0] 64 (0, 0)) → Wi.Rep w' (Wi.New (w.heap.size + 2) wb) Y (.agg #[.bool nd, .int .i64 tg, .string ⟨⟨sv⟩⟩, .slice A1 m3 ca1]) → wb.heap.size ≤ w'.heap.size → w.heap.size ≤ h → Below w.heap.size w w' →
      PackPost c X w (.returned (.tuple #[.agg #[.bool true, .int .i64 6, .string ⟨⟨[]⟩⟩, .slice (some ⟨h, 0, none⟩) 3 3, .string ⟨⟨P⟩⟩], .int .i64 0])) w') := fun w' h h1 h2 h3 h4 h5 => ⟨true, 6, [], some ⟨h, 0, none⟩, 3, 3, by rw [hP], by rw [HPK.out]; exact rep3 h1 h2 (fun b hb => ⟨by have := hb.1; omega, Nat.lt_of_lt_of_le hb.2 h3⟩) ⟨h4, (Array.getElem?_eq_some_iff.1 h1).1⟩, h5⟩
  clear hP hpm hpm2 hpm3 hpm4 HPK
  go_wp2_with fail
  refine wp_region_inv (by kernel_rfl) (fun L act W => ∃ t33 t34 t35 t36 t37 t38 t39 t40 t41 t42 t43 t44 t45 t5, act = { tmps := #[.agg #[.int .i64 5, .string ⟨⟨[]⟩⟩, .int .i64 n, .slice (some ⟨b, o, none⟩) 2 ca], .string ⟨⟨c⟩⟩, .pointer (some ⟨w.heap.size, 0, none⟩), undef, .pointer (some ⟨w.heap.size + 1, 0, none⟩), t5, .pointer (some ⟨wb.heap.size, 0, none⟩), .int .i64 0, .string ⟨⟨SL⟩⟩, .tuple #[.agg #[.bool nd, .int .i64 tg, .string ⟨⟨sv⟩⟩, .slice A1 m3 ca1, .string ⟨⟨O⟩⟩], .int .i64 0], .pointer (some ⟨w.heap.size, 3, none⟩), .slice (some ⟨b, o, none⟩) 2 ca, .pointer (some ⟨b, o + 4, none⟩), .agg #[q0, q1, q2, q3], .string ⟨⟨c⟩⟩, .tuple #[.agg #[.bool nd, .int .i64 tg, .string ⟨⟨sv⟩⟩, .slice A1 m3 ca1, .string ⟨⟨O⟩⟩], .int .i64 0], .agg #[.bool nd, .int .i64 tg, .string ⟨⟨sv⟩⟩, .slice A1 m3 ca1, .string ⟨⟨O⟩⟩], .int .i64 0, .int .i64 0, .bool false, undef, undef, .pointer (some ⟨w.heap.size, 3, none⟩), .slice (some ⟨b, o, none⟩) 2 ca, .pointer (some ⟨b, o, none⟩), .agg #[.int .i64 k0, .string ⟨⟨s0⟩⟩, .int .i64 n0, .slice A0 l0.length ca0], .string ⟨⟨c⟩⟩, .string ⟨⟨K⟩⟩, .pointer (some ⟨w.heap.size, 2, none⟩), .int .i64 n, .pointer (some ⟨wb.heap.size, 4, none⟩), .string ⟨⟨O⟩⟩, .string ⟨⟨SL⟩⟩, t33, t34, t35, t36, t37, t38, t39, t40, t41, t42, t43, t44, t45], defers := [] } ∧ (L 0 = true → (.pointer (some ⟨w.heap.size, 2, none⟩) : Value) = t33) ∧ (L 1 = true → (.int .i64 n : Value) = t34) ∧ (L 2 = true → (.string ⟨⟨NM⟩⟩ : Value) = t35) ∧ (L 3 = true → (.agg #[.bool false, .int .i64 2, .string ⟨⟨NM⟩⟩, .slice none 0 0] : Value) = t36) ∧ (L 4 = true → (.pointer (some ⟨wb.heap.size, 0, none⟩) : Value) = t37) ∧ (L 5 = true → (.agg #[.bool nd, .int .i64 tg, .string ⟨⟨sv⟩⟩, .slice A1 m3 ca1] : Value) = t38) ∧ (L 6 = true → (.string ⟨⟨SL⟩⟩ : Value) = t39) ∧ (L 7 = true → (.agg #[.bool false, .int .i64 7, .string ⟨⟨SL⟩⟩, .slice none 0 0] : Value) = t40) ∧ (L 12 = true → (.int .i64 0 : Value) = t45) ∧ (L 14 = true → (.int .i64 0 : Value) = t5) ∧ (L 14 = false → (.int .i64 0 : Value) = t5) ∧ (Below w.heap.size w W) ∧ (W2.heap.size ≤ W.heap.size) ∧ (W.heap[w.heap.size]? = some (.cells #[.int .i64 5, .string ⟨⟨[]⟩⟩, .int .i64 n, .slice (some ⟨b, o, none⟩) 2 ca] 25 (0, 0))) ∧ (W.heap[wb.heap.size]? = some (.cells #[.bool nd, .int .i64 tg, .string ⟨⟨sv⟩⟩, .slice A1 m3 ca1, .string ⟨⟨O⟩⟩] 66 (0, 0))) ∧ (L 13 = false → W.heap[w.heap.size + 1]? = some (.cells #[.bool false, .int .i64 0, .string ⟨⟨[]⟩⟩, .slice none 0 0, .string ⟨⟨[]⟩⟩] 66 (0, 0))) ∧ (Wi.Rep W (Wi.New (w.heap.size + 2) wb) Y (.agg #[.bool nd, .int .i64 tg, .string ⟨⟨sv⟩⟩, .slice A1 m3 ca1])) ∧ (L 8 = true → ∃ h, (.slice (some ⟨h, 0, none⟩) 3 3 : Value) = t41 ∧ w.heap.size + 2 ≤ h ∧ W.heap[h]? = some (.cells #[.bool false, .int .i64 2, .string ⟨⟨NM⟩⟩, .slice none 0 0, .bool nd, .int .i64 tg, .string ⟨⟨sv⟩⟩, .slice A1 m3 ca1, .bool false, .int .i64 7, .string ⟨⟨SL⟩⟩, .slice none 0 0] 64 (0, 0))) ∧ (L 9 = true → ∃ h, (.agg #[.bool true, .int .i64 6, .string ⟨⟨[]⟩⟩, .slice (some ⟨h, 0, none⟩) 3 3] : Value) = t42 ∧ w.heap.size + 2 ≤ h ∧ W.heap[h]? = some (.cells #[.bool false, .int .i64 2, .string ⟨⟨NM⟩⟩, .slice none 0 0, .bool nd, .int .i64 tg, .string ⟨⟨sv⟩⟩, .slice A1 m3 ca1, .bool false, .int .i64 7, .string ⟨⟨SL⟩⟩, .slice none 0 0] 64 (0, 0))) ∧ (L 10 = true → ∃ h, (.tuple #[.agg #[.bool true, .int .i64 6, .string ⟨⟨[]⟩⟩, .slice (some ⟨h, 0, none⟩) 3 3, .string ⟨⟨P⟩⟩], .int .i64 0] : Value) = t43 ∧ w.heap.size + 2 ≤ h ∧ W.heap[h]? = some (.cells #[.bool false, .int .i64 2, .string ⟨⟨NM⟩⟩, .slice none 0 0, .bool nd, .int .i64 tg, .string ⟨⟨sv⟩⟩, .slice A1 m3 ca1, .bool false, .int .i64 7, .string ⟨⟨SL⟩⟩, .slice none 0 0] 64 (0, 0))) ∧ (L 11 = true → ∃ h, (.agg #[.bool true, .int .i64 6, .string ⟨⟨[]⟩⟩, .slice (some ⟨h, 0, none⟩) 3 3, .string ⟨⟨P⟩⟩] : Value) = t44 ∧ w.heap.size + 2 ≤ h ∧ W.heap[h]? = some (.cells #[.bool false, .int .i64 2, .string ⟨⟨NM⟩⟩, .slice none 0 0, .bool nd, .int .i64 tg, .string ⟨⟨sv⟩⟩, .slice A1 m3 ca1, .bool false, .int .i64 7, .string ⟨⟨SL⟩⟩, .slice none 0 0] 64 (0, 0))) ∧ (L 13 = true → ∃ h, W.heap[w.heap.size + 1]? = some (.cells #[.bool true, .int .i64 6, .string ⟨⟨[]⟩⟩, .slice (some ⟨h, 0, none⟩) 3 3, .string ⟨⟨P⟩⟩] 66 (0, 0)) ∧ w.heap.size + 2 ≤ h ∧ W.heap[h]? = some (.cells #[.bool false, .int .i64 2, .string ⟨⟨NM⟩⟩, .slice none 0 0, .bool nd, .int .i64 tg, .string ⟨⟨sv⟩⟩, .slice A1 m3 ca1, .bool false, .int .i64 7, .string ⟨⟨SL⟩⟩, .slice none 0 0] 64 (0, 0)))) (by kernel_rfl) ?_ ?_ ?_
  · exact ⟨_, _, _, _, _, _, _, _, _, _, _, _, _, _, rfl, nofun, nofun, nofun, nofun, nofun, nofun, nofun, nofun, nofun, nofun, fun _ => rfl, b4.drew, Nat.le_refl _, gB2, gD2, fun _ => gC2, Wi.rep_keep (w := W2) (w' := W2.drew) (fun _ h => h) (fun _ _ _ => rfl) _ _ hrp2, nofun, nofun, nofun, nofun, nofun⟩
  · rintro L _ W i oo ⟨t33, t34, t35, t36, t37, t38, t39, t40, t41, t42, t43, t44, t45, t5, rfl, f0, f1, f2, f3, f4, f5, f6, f7, f12, f14, u14, qb, qs, qz, qd, qc, qr, g8, g9, g10, g11, qe⟩ ho hL hd
    rcases i with _ | _ | _ | _ | _ | _ | _ | _ | _ | _ | _ | _ | _ | _ | _ | i
    · obtain rfl := Option.some.inj ho
      refine wpOp_step rfl fun K hK => ?_
      have F0X := Lib.hid f0
      have F1X := Lib.hid f1
      have F2X := Lib.hid f2
      have F3X := Lib.hid f3
      have F4X := Lib.hid f4
      have F5X := Lib.hid f5
      have F6X := Lib.hid f6
      have F7X := Lib.hid f7
      have F12X := Lib.hid f12
      have F14X := Lib.hid f14
      have U14X := Lib.hid u14
      have QBX := Lib.hid qb
      have QSX := Lib.hid qs
      have QZX := Lib.hid qz
      have QDX := Lib.hid qd
      have QCX := Lib.hid qc
      have QRX := Lib.hid qr
      have G8X := Lib.hid g8
      have G9X := Lib.hid g9
      have G10X := Lib.hid g10
      have G11X := Lib.hid g11
      have QEX := Lib.hid qe
      clear f0 f1 f2 f3 f4 f5 f6 f7 f12 f14 u14 qb qs qz qd qc qr g8 g9 g10 g11 qe hd ho hL
      go_simp
      refine hK _ _ ?_
      exact ⟨_, _, _, _, _, _, _, _, _, _, _, _, _, _, rfl, fun _ => rfl, F1X.out, F2X.out, F3X.out, F4X.out, F5X.out, F6X.out, F7X.out, F12X.out, F14X.out, U14X.out, QBX.out, QSX.out, QZX.out, QDX.out, QCX.out, QRX.out, G8X.out, G9X.out, G10X.out, G11X.out, QEX.out⟩
    · obtain rfl := Option.some.inj ho
      have l0 := hd ⟨0, .data⟩ (by simp) rfl
      obtain rfl := f0 l0
      have hcn : W.cell? ⟨w.heap.size, 2, none⟩ = some (.int .i64 n) := by rw [cell_of_row _ _ _ _ _ _ qz]; rfl
      refine wpOp_step rfl fun K hK => ?_
      have F0X := Lib.hid f0
      have F1X := Lib.hid f1
      have F2X := Lib.hid f2
      have F3X := Lib.hid f3
      have F4X := Lib.hid f4
      have F5X := Lib.hid f5
      have F6X := Lib.hid f6
      have F7X := Lib.hid f7
      have F12X := Lib.hid f12
      have F14X := Lib.hid f14
      have U14X := Lib.hid u14
      have QBX := Lib.hid qb
      have QSX := Lib.hid qs
      have QZX := Lib.hid qz
      have QDX := Lib.hid qd
      have QCX := Lib.hid qc
      have QRX := Lib.hid qr
      have G8X := Lib.hid g8
      have G9X := Lib.hid g9
      have G10X := Lib.hid g10
      have G11X := Lib.hid g11
      have QEX := Lib.hid qe
      clear f0 f1 f2 f3 f4 f5 f6 f7 f12 f14 u14 qb qs qz qd qc qr g8 g9 g10 g11 qe hd ho hL l0
      go_simp
      refine hK _ _ ?_
      exact ⟨_, _, _, _, _, _, _, _, _, _, _, _, _, _, rfl, F0X.out, fun _ => rfl, F2X.out, F3X.out, F4X.out, F5X.out, F6X.out, F7X.out, F12X.out, F14X.out, U14X.out, QBX.out, QSX.out, QZX.out, QDX.out, QCX.out, QRX.out, G8X.out, G9X.out, G10X.out, G11X.out, QEX.out⟩
    · obtain rfl := Option.some.inj ho
      have l1 := hd ⟨1, .data⟩ (by simp) rfl
      obtain rfl := f1 l1
      have HC := Lib.hid (HNUM.out W)
      refine wpOp_step rfl fun K hK => ?_
      have F0X := Lib.hid f0
      have F1X := Lib.hid f1
      have F2X := Lib.hid f2
      have F3X := Lib.hid f3
      have F4X := Lib.hid f4
      have F5X := Lib.hid f5
      have F6X := Lib.hid f6
      have F7X := Lib.hid f7
      have F12X := Lib.hid f12
      have F14X := Lib.hid f14
      have U14X := Lib.hid u14
      have QBX := Lib.hid qb
      have QSX := Lib.hid qs
      have QZX := Lib.hid qz
      have QDX := Lib.hid qd
      have QCX := Lib.hid qc
      have QRX := Lib.hid qr
      have G8X := Lib.hid g8
      have G9X := Lib.hid g9
      have G10X := Lib.hid g10
      have G11X := Lib.hid g11
      have QEX := Lib.hid qe
      clear f0 f1 f2 f3 f4 f5 f6 f7 f12 f14 u14 qb qs qz qd qc qr g8 g9 g10 g11 qe hd ho hL l1
      go_simp
      refine HC.out.mono ?_
      rintro _ w1 ⟨rfl, hb1⟩
      refine hK _ _ ?_
      exact ⟨_, _, _, _, _, _, _, _, _, _, _, _, _, _, rfl, F0X.out, F1X.out, fun _ => rfl, F3X.out, F4X.out, F5X.out, F6X.out, F7X.out, F12X.out, F14X.out, U14X.out, QBX.out.trans (hb1.mono QBX.out.size), Nat.le_trans QSX.out hb1.size, (hb1.block (w.heap.size) (Array.getElem?_eq_some_iff.1 (QZX.out)).1).trans (QZX.out), (hb1.block (wb.heap.size) (Array.getElem?_eq_some_iff.1 (QDX.out)).1).trans (QDX.out), fun h => (hb1.block (w.heap.size + 1) (Array.getElem?_eq_some_iff.1 (QCX.out h)).1).trans (QCX.out h), Wi.rep_keep (fun _ h => h) (fun k o hk => hb1.cell (p := ⟨k, o, none⟩) (Nat.lt_of_lt_of_le hk.2 (Nat.le_trans HS1.out QSX.out))) _ _ QRX.out, fun h => (by obtain ⟨h1, e0, e1, e2⟩ := G8X.out h; exact ⟨h1, e0, e1, (hb1.block h1 (Array.getElem?_eq_some_iff.1 e2).1).trans e2⟩), fun h => (by obtain ⟨h1, e0, e1, e2⟩ := G9X.out h; exact ⟨h1, e0, e1, (hb1.block h1 (Array.getElem?_eq_some_iff.1 e2).1).trans e2⟩), fun h => (by obtain ⟨h1, e0, e1, e2⟩ := G10X.out h; exact ⟨h1, e0, e1, (hb1.block h1 (Array.getElem?_eq_some_iff.1 e2).1).trans e2⟩), fun h => (by obtain ⟨h1, e0, e1, e2⟩ := G11X.out h; exact ⟨h1, e0, e1, (hb1.block h1 (Array.getElem?_eq_some_iff.1 e2).1).trans e2⟩), fun h => (by obtain ⟨h1, e0, e1, e2⟩ := QEX.out h; exact ⟨h1, (hb1.block (w.heap.size + 1) (Array.getElem?_eq_some_iff.1 e0).1).trans e0, e1, (hb1.block h1 (Array.getElem?_eq_some_iff.1 e2).1).trans e2⟩)⟩
    · obtain rfl := Option.some.inj ho
      have l2 := hd ⟨2, .data⟩ (by simp) rfl
      obtain rfl := f2 l2
      have HC := Lib.hid (HLEAF.out 2 NM W)
      refine wpOp_step rfl fun K hK => ?_
      have F0X := Lib.hid f0
      have F1X := Lib.hid f1
      have F2X := Lib.hid f2
      have F3X := Lib.hid f3
      have F4X := Lib.hid f4
      have F5X := Lib.hid f5
      have F6X := Lib.hid f6
      have F7X := Lib.hid f7
      have F12X := Lib.hid f12
      have F14X := Lib.hid f14
      have U14X := Lib.hid u14
      have QBX := Lib.hid qb
      have QSX := Lib.hid qs
      have QZX := Lib.hid qz
      have QDX := Lib.hid qd
      have QCX := Lib.hid qc
      have QRX := Lib.hid qr
      have G8X := Lib.hid g8
      have G9X := Lib.hid g9
      have G10X := Lib.hid g10
      have G11X := Lib.hid g11
      have QEX := Lib.hid qe
      clear f0 f1 f2 f3 f4 f5 f6 f7 f12 f14 u14 qb qs qz qd qc qr g8 g9 g10 g11 qe hd ho hL l2
      go_simp
      refine HC.out.mono ?_
      rintro _ w1 ⟨rfl, hb1⟩
      refine hK _ _ ?_
      exact ⟨_, _, _, _, _, _, _, _, _, _, _, _, _, _, rfl, F0X.out, F1X.out, F2X.out, fun _ => rfl, F4X.out, F5X.out, F6X.out, F7X.out, F12X.out, F14X.out, U14X.out, QBX.out.trans (hb1.mono QBX.out.size), Nat.le_trans QSX.out hb1.size, (hb1.block (w.heap.size) (Array.getElem?_eq_some_iff.1 (QZX.out)).1).trans (QZX.out), (hb1.block (wb.heap.size) (Array.getElem?_eq_some_iff.1 (QDX.out)).1).trans (QDX.out), fun h => (hb1.block (w.heap.size + 1) (Array.getElem?_eq_some_iff.1 (QCX.out h)).1).trans (QCX.out h), Wi.rep_keep (fun _ h => h) (fun k o hk => hb1.cell (p := ⟨k, o, none⟩) (Nat.lt_of_lt_of_le hk.2 (Nat.le_trans HS1.out QSX.out))) _ _ QRX.out, fun h => (by obtain ⟨h1, e0, e1, e2⟩ := G8X.out h; exact ⟨h1, e0, e1, (hb1.block h1 (Array.getElem?_eq_some_iff.1 e2).1).trans e2⟩), fun h => (by obtain ⟨h1, e0, e1, e2⟩ := G9X.out h; exact ⟨h1, e0, e1, (hb1.block h1 (Array.getElem?_eq_some_iff.1 e2).1).trans e2⟩), fun h => (by obtain ⟨h1, e0, e1, e2⟩ := G10X.out h; exact ⟨h1, e0, e1, (hb1.block h1 (Array.getElem?_eq_some_iff.1 e2).1).trans e2⟩), fun h => (by obtain ⟨h1, e0, e1, e2⟩ := G11X.out h; exact ⟨h1, e0, e1, (hb1.block h1 (Array.getElem?_eq_some_iff.1 e2).1).trans e2⟩), fun h => (by obtain ⟨h1, e0, e1, e2⟩ := QEX.out h; exact ⟨h1, (hb1.block (w.heap.size + 1) (Array.getElem?_eq_some_iff.1 e0).1).trans e0, e1, (hb1.block h1 (Array.getElem?_eq_some_iff.1 e2).1).trans e2⟩)⟩
    · obtain rfl := Option.some.inj ho
      refine wpOp_step rfl fun K hK => ?_
      have F0X := Lib.hid f0
      have F1X := Lib.hid f1
      have F2X := Lib.hid f2
      have F3X := Lib.hid f3
      have F4X := Lib.hid f4
      have F5X := Lib.hid f5
      have F6X := Lib.hid f6
      have F7X := Lib.hid f7
      have F12X := Lib.hid f12
      have F14X := Lib.hid f14
      have U14X := Lib.hid u14
      have QBX := Lib.hid qb
      have QSX := Lib.hid qs
      have QZX := Lib.hid qz
      have QDX := Lib.hid qd
      have QCX := Lib.hid qc
      have QRX := Lib.hid qr
      have G8X := Lib.hid g8
      have G9X := Lib.hid g9
      have G10X := Lib.hid g10
      have G11X := Lib.hid g11
      have QEX := Lib.hid qe
      clear f0 f1 f2 f3 f4 f5 f6 f7 f12 f14 u14 qb qs qz qd qc qr g8 g9 g10 g11 qe hd ho hL
      go_simp
      refine hK _ _ ?_
      exact ⟨_, _, _, _, _, _, _, _, _, _, _, _, _, _, rfl, F0X.out, F1X.out, F2X.out, F3X.out, fun _ => rfl, F5X.out, F6X.out, F7X.out, F12X.out, F14X.out, U14X.out, QBX.out, QSX.out, QZX.out, QDX.out, QCX.out, QRX.out, G8X.out, G9X.out, G10X.out, G11X.out, QEX.out⟩
    · obtain rfl := Option.some.inj ho
      have l4 := hd ⟨4, .data⟩ (by simp) rfl
      obtain rfl := f4 l4
      have x0 : W.cell? ⟨wb.heap.size, 0, none⟩ = some (.bool nd) := by rw [cell_of_row _ _ _ _ _ _ qd]; rfl
      have x1 : W.cell? ⟨wb.heap.size, 1, none⟩ = some (.int .i64 tg) := by rw [cell_of_row _ _ _ _ _ _ qd]; rfl
      have x2 : W.cell? ⟨wb.heap.size, 2, none⟩ = some (.string ⟨⟨sv⟩⟩) := by rw [cell_of_row _ _ _ _ _ _ qd]; rfl
      have x3 : W.cell? ⟨wb.heap.size, 3, none⟩ = some (.slice A1 m3 ca1) := by rw [cell_of_row _ _ _ _ _ _ qd]; rfl
      refine wpOp_step rfl fun K hK => ?_
      have F0X := Lib.hid f0
      have F1X := Lib.hid f1
      have F2X := Lib.hid f2
      have F3X := Lib.hid f3
      have F4X := Lib.hid f4
      have F5X := Lib.hid f5
      have F6X := Lib.hid f6
      have F7X := Lib.hid f7
      have F12X := Lib.hid f12
      have F14X := Lib.hid f14
      have U14X := Lib.hid u14
      have QBX := Lib.hid qb
      have QSX := Lib.hid qs
      have QZX := Lib.hid qz
      have QDX := Lib.hid qd
      have QCX := Lib.hid qc
      have QRX := Lib.hid qr
      have G8X := Lib.hid g8
      have G9X := Lib.hid g9
      have G10X := Lib.hid g10
      have G11X := Lib.hid g11
      have QEX := Lib.hid qe
      clear f0 f1 f2 f3 f4 f5 f6 f7 f12 f14 u14 qb qs qz qd qc qr g8 g9 g10 g11 qe hd ho hL l4
      go_simp
      refine hK _ _ ?_
      exact ⟨_, _, _, _, _, _, _, _, _, _, _, _, _, _, rfl, F0X.out, F1X.out, F2X.out, F3X.out, F4X.out, fun _ => rfl, F6X.out, F7X.out, F12X.out, F14X.out, U14X.out, QBX.out, QSX.out, QZX.out, QDX.out, QCX.out, QRX.out, G8X.out, G9X.out, G10X.out, G11X.out, QEX.out⟩
    · obtain rfl := Option.some.inj ho
      refine wpOp_step rfl fun K hK => ?_
      have F0X := Lib.hid f0
      have F1X := Lib.hid f1
      have F2X := Lib.hid f2
      have F3X := Lib.hid f3
      have F4X := Lib.hid f4
      have F5X := Lib.hid f5
      have F6X := Lib.hid f6
      have F7X := Lib.hid f7
      have F12X := Lib.hid f12
      have F14X := Lib.hid f14
      have U14X := Lib.hid u14
      have QBX := Lib.hid qb
      have QSX := Lib.hid qs
      have QZX := Lib.hid qz
      have QDX := Lib.hid qd
      have QCX := Lib.hid qc
      have QRX := Lib.hid qr
      have G8X := Lib.hid g8
      have G9X := Lib.hid g9
      have G10X := Lib.hid g10
      have G11X := Lib.hid g11
      have QEX := Lib.hid qe
      clear f0 f1 f2 f3 f4 f5 f6 f7 f12 f14 u14 qb qs qz qd qc qr g8 g9 g10 g11 qe hd ho hL
      go_simp
      refine hK _ _ ?_
      exact ⟨_, _, _, _, _, _, _, _, _, _, _, _, _, _, rfl, F0X.out, F1X.out, F2X.out, F3X.out, F4X.out, F5X.out, fun _ => rfl, F7X.out, F12X.out, F14X.out, U14X.out, QBX.out, QSX.out, QZX.out, QDX.out, QCX.out, QRX.out, G8X.out, G9X.out, G10X.out, G11X.out, QEX.out⟩
    · obtain rfl := Option.some.inj ho
      have l6 := hd ⟨6, .data⟩ (by simp) rfl
      obtain rfl := f6 l6
      have HC := Lib.hid (HLEAF.out 7 SL W)
      refine wpOp_step rfl fun K hK => ?_
      have F0X := Lib.hid f0
      have F1X := Lib.hid f1
      have F2X := Lib.hid f2
      have F3X := Lib.hid f3
      have F4X := Lib.hid f4
      have F5X := Lib.hid f5
      have F6X := Lib.hid f6
      have F7X := Lib.hid f7
      have F12X := Lib.hid f12
      have F14X := Lib.hid f14
      have U14X := Lib.hid u14
      have QBX := Lib.hid qb
      have QSX := Lib.hid qs
      have QZX := Lib.hid qz
      have QDX := Lib.hid qd
      have QCX := Lib.hid qc
      have QRX := Lib.hid qr
      have G8X := Lib.hid g8
      have G9X := Lib.hid g9
      have G10X := Lib.hid g10
      have G11X := Lib.hid g11
      have QEX := Lib.hid qe
      clear f0 f1 f2 f3 f4 f5 f6 f7 f12 f14 u14 qb qs qz qd qc qr g8 g9 g10 g11 qe hd ho hL l6
      go_simp
      refine HC.out.mono ?_
      rintro _ w1 ⟨rfl, hb1⟩
      refine hK _ _ ?_
      exact ⟨_, _, _, _, _, _, _, _, _, _, _, _, _, _, rfl, F0X.out, F1X.out, F2X.out, F3X.out, F4X.out, F5X.out, F6X.out, fun _ => rfl, F12X.out, F14X.out, U14X.out, QBX.out.trans (hb1.mono QBX.out.size), Nat.le_trans QSX.out hb1.size, (hb1.block (w.heap.size) (Array.getElem?_eq_some_iff.1 (QZX.out)).1).trans (QZX.out), (hb1.block (wb.heap.size) (Array.getElem?_eq_some_iff.1 (QDX.out)).1).trans (QDX.out), fun h => (hb1.block (w.heap.size + 1) (Array.getElem?_eq_some_iff.1 (QCX.out h)).1).trans (QCX.out h), Wi.rep_keep (fun _ h => h) (fun k o hk => hb1.cell (p := ⟨k, o, none⟩) (Nat.lt_of_lt_of_le hk.2 (Nat.le_trans HS1.out QSX.out))) _ _ QRX.out, fun h => (by obtain ⟨h1, e0, e1, e2⟩ := G8X.out h; exact ⟨h1, e0, e1, (hb1.block h1 (Array.getElem?_eq_some_iff.1 e2).1).trans e2⟩), fun h => (by obtain ⟨h1, e0, e1, e2⟩ := G9X.out h; exact ⟨h1, e0, e1, (hb1.block h1 (Array.getElem?_eq_some_iff.1 e2).1).trans e2⟩), fun h => (by obtain ⟨h1, e0, e1, e2⟩ := G10X.out h; exact ⟨h1, e0, e1, (hb1.block h1 (Array.getElem?_eq_some_iff.1 e2).1).trans e2⟩), fun h => (by obtain ⟨h1, e0, e1, e2⟩ := G11X.out h; exact ⟨h1, e0, e1, (hb1.block h1 (Array.getElem?_eq_some_iff.1 e2).1).trans e2⟩), fun h => (by obtain ⟨h1, e0, e1, e2⟩ := QEX.out h; exact ⟨h1, (hb1.block (w.heap.size + 1) (Array.getElem?_eq_some_iff.1 e0).1).trans e0, e1, (hb1.block h1 (Array.getElem?_eq_some_iff.1 e2).1).trans e2⟩)⟩
    · obtain rfl := Option.some.inj ho
      have l3 := hd ⟨3, .data⟩ (by simp) rfl
      have l5 := hd ⟨5, .data⟩ (by simp) rfl
      have l7 := hd ⟨7, .data⟩ (by simp) rfl
      obtain rfl := f3 l3
      obtain rfl := f5 l5
      obtain rfl := f7 l7
      refine wpOp_step rfl fun K hK => ?_
      have F0X := Lib.hid f0
      have F1X := Lib.hid f1
      have F2X := Lib.hid f2
      have F3X := Lib.hid f3
      have F4X := Lib.hid f4
      have F5X := Lib.hid f5
      have F6X := Lib.hid f6
      have F7X := Lib.hid f7
      have F12X := Lib.hid f12
      have F14X := Lib.hid f14
      have U14X := Lib.hid u14
      have QBX := Lib.hid qb
      have QSX := Lib.hid qs
      have QZX := Lib.hid qz
      have QDX := Lib.hid qd
      have QCX := Lib.hid qc
      have QRX := Lib.hid qr
      have G8X := Lib.hid g8
      have G9X := Lib.hid g9
      have G10X := Lib.hid g10
      have G11X := Lib.hid g11
      have QEX := Lib.hid qe
      clear f0 f1 f2 f3 f4 f5 f6 f7 f12 f14 u14 qb qs qz qd qc qr g8 g9 g10 g11 qe hd ho hL l3 l5 l7
      go_simp
      refine hK _ _ ?_
      exact ⟨_, _, _, _, _, _, _, _, _, _, _, _, _, _, rfl, F0X.out, F1X.out, F2X.out, F3X.out, F4X.out, F5X.out, F6X.out, F7X.out, F12X.out, F14X.out, U14X.out, QBX.out.trans (((Below.refl W.heap.size W).alloc (Nat.le_refl _) _).mono QBX.out.size), Nat.le_trans QSX.out ((Below.refl W.heap.size W).alloc (Nat.le_refl _) _).size, (((Below.refl W.heap.size W).alloc (Nat.le_refl _) _).block (w.heap.size) (Array.getElem?_eq_some_iff.1 (QZX.out)).1).trans (QZX.out), (((Below.refl W.heap.size W).alloc (Nat.le_refl _) _).block (wb.heap.size) (Array.getElem?_eq_some_iff.1 (QDX.out)).1).trans (QDX.out), fun h => (((Below.refl W.heap.size W).alloc (Nat.le_refl _) _).block (w.heap.size + 1) (Array.getElem?_eq_some_iff.1 (QCX.out h)).1).trans (QCX.out h), Wi.rep_keep (fun _ h => h) (fun k o hk => ((Below.refl W.heap.size W).alloc (Nat.le_refl _) _).cell (p := ⟨k, o, none⟩) (Nat.lt_of_lt_of_le hk.2 (Nat.le_trans HS1.out QSX.out))) _ _ QRX.out, fun _ => ⟨_, rfl, Nat.le_trans HZ2.out QSX.out, heap_alloc_new W _⟩, fun h => (by obtain ⟨h1, e0, e1, e2⟩ := G9X.out h; exact ⟨h1, e0, e1, (((Below.refl W.heap.size W).alloc (Nat.le_refl _) _).block h1 (Array.getElem?_eq_some_iff.1 e2).1).trans e2⟩), fun h => (by obtain ⟨h1, e0, e1, e2⟩ := G10X.out h; exact ⟨h1, e0, e1, (((Below.refl W.heap.size W).alloc (Nat.le_refl _) _).block h1 (Array.getElem?_eq_some_iff.1 e2).1).trans e2⟩), fun h => (by obtain ⟨h1, e0, e1, e2⟩ := G11X.out h; exact ⟨h1, e0, e1, (((Below.refl W.heap.size W).alloc (Nat.le_refl _) _).block h1 (Array.getElem?_eq_some_iff.1 e2).1).trans e2⟩), fun h => (by obtain ⟨h1, e0, e1, e2⟩ := QEX.out h; exact ⟨h1, (((Below.refl W.heap.size W).alloc (Nat.le_refl _) _).block (w.heap.size + 1) (Array.getElem?_eq_some_iff.1 e0).1).trans e0, e1, (((Below.refl W.heap.size W).alloc (Nat.le_refl _) _).block h1 (Array.getElem?_eq_some_iff.1 e2).1).trans e2⟩)⟩
    · obtain rfl := Option.some.inj ho
      have l8 := hd ⟨8, .data⟩ (by simp) rfl
      obtain ⟨h8, rfl, hz8, hh8⟩ := g8 l8
      have HH8 := Lib.hid (And.intro hz8 hh8)
      have HC := Lib.hid (HNODE.out (some ⟨h8, 0, none⟩) W)
      refine wpOp_step rfl fun K hK => ?_
      have F0X := Lib.hid f0
      have F1X := Lib.hid f1
      have F2X := Lib.hid f2
      have F3X := Lib.hid f3
      have F4X := Lib.hid f4
      have F5X := Lib.hid f5
      have F6X := Lib.hid f6
      have F7X := Lib.hid f7
      have F12X := Lib.hid f12
      have F14X := Lib.hid f14
      have U14X := Lib.hid u14
      have QBX := Lib.hid qb
      have QSX := Lib.hid qs
      have QZX := Lib.hid qz
      have QDX := Lib.hid qd
      have QCX := Lib.hid qc
      have QRX := Lib.hid qr
      have G8X := Lib.hid g8
      have G9X := Lib.hid g9
      have G10X := Lib.hid g10
      have G11X := Lib.hid g11
      have QEX := Lib.hid qe
      clear f0 f1 f2 f3 f4 f5 f6 f7 f12 f14 u14 qb qs qz qd qc qr g8 g9 g10 g11 qe hd ho hL l8 hz8 hh8
      go_simp
      refine HC.out.mono ?_
      rintro _ w1 ⟨rfl, hb1⟩
      refine hK _ _ ?_
      exact ⟨_, _, _, _, _, _, _, _, _, _, _, _, _, _, rfl, F0X.out, F1X.out, F2X.out, F3X.out, F4X.out, F5X.out, F6X.out, F7X.out, F12X.out, F14X.out, U14X.out, QBX.out.trans (hb1.mono QBX.out.size), Nat.le_trans QSX.out hb1.size, (hb1.block (w.heap.size) (Array.getElem?_eq_some_iff.1 (QZX.out)).1).trans (QZX.out), (hb1.block (wb.heap.size) (Array.getElem?_eq_some_iff.1 (QDX.out)).1).trans (QDX.out), fun h => (hb1.block (w.heap.size + 1) (Array.getElem?_eq_some_iff.1 (QCX.out h)).1).trans (QCX.out h), Wi.rep_keep (fun _ h => h) (fun k o hk => hb1.cell (p := ⟨k, o, none⟩) (Nat.lt_of_lt_of_le hk.2 (Nat.le_trans HS1.out QSX.out))) _ _ QRX.out, fun h => (by obtain ⟨h1, e0, e1, e2⟩ := G8X.out h; exact ⟨h1, e0, e1, (hb1.block h1 (Array.getElem?_eq_some_iff.1 e2).1).trans e2⟩), fun _ => ⟨_, rfl, HH8.out.1, (hb1.block (h8) (Array.getElem?_eq_some_iff.1 (HH8.out.2)).1).trans (HH8.out.2)⟩, fun h => (by obtain ⟨h1, e0, e1, e2⟩ := G10X.out h; exact ⟨h1, e0, e1, (hb1.block h1 (Array.getElem?_eq_some_iff.1 e2).1).trans e2⟩), fun h => (by obtain ⟨h1, e0, e1, e2⟩ := G11X.out h; exact ⟨h1, e0, e1, (hb1.block h1 (Array.getElem?_eq_some_iff.1 e2).1).trans e2⟩), fun h => (by obtain ⟨h1, e0, e1, e2⟩ := QEX.out h; exact ⟨h1, (hb1.block (w.heap.size + 1) (Array.getElem?_eq_some_iff.1 e0).1).trans e0, e1, (hb1.block h1 (Array.getElem?_eq_some_iff.1 e2).1).trans e2⟩)⟩
    · obtain rfl := Option.some.inj ho
      have l9 := hd ⟨9, .data⟩ (by simp) rfl
      obtain ⟨h8, rfl, hz8, hh8⟩ := g9 l9
      have HH8 := Lib.hid (And.intro hz8 hh8)
      have HC := Lib.hid (HWR.out W h8 hh8 qr (Nat.le_trans HS1.out qs))
      refine wpOp_step rfl fun K hK => ?_
      have F0X := Lib.hid f0
      have F1X := Lib.hid f1
      have F2X := Lib.hid f2
      have F3X := Lib.hid f3
      have F4X := Lib.hid f4
      have F5X := Lib.hid f5
      have F6X := Lib.hid f6
      have F7X := Lib.hid f7
      have F12X := Lib.hid f12
      have F14X := Lib.hid f14
      have U14X := Lib.hid u14
      have QBX := Lib.hid qb
      have QSX := Lib.hid qs
      have QZX := Lib.hid qz
      have QDX := Lib.hid qd
      have QCX := Lib.hid qc
      have QRX := Lib.hid qr
      have G8X := Lib.hid g8
      have G9X := Lib.hid g9
      have G10X := Lib.hid g10
      have G11X := Lib.hid g11
      have QEX := Lib.hid qe
      clear f0 f1 f2 f3 f4 f5 f6 f7 f12 f14 u14 qb qs qz qd qc qr g8 g9 g10 g11 qe hd ho hL l9 hz8 hh8
      go_simp
      refine HC.out.mono ?_
      rintro _ w1 ⟨rfl, hb1⟩
      refine hK _ _ ?_
      exact ⟨_, _, _, _, _, _, _, _, _, _, _, _, _, _, rfl, F0X.out, F1X.out, F2X.out, F3X.out, F4X.out, F5X.out, F6X.out, F7X.out, F12X.out, F14X.out, U14X.out, QBX.out.trans (hb1.mono QBX.out.size), Nat.le_trans QSX.out hb1.size, (hb1.block (w.heap.size) (Array.getElem?_eq_some_iff.1 (QZX.out)).1).trans (QZX.out), (hb1.block (wb.heap.size) (Array.getElem?_eq_some_iff.1 (QDX.out)).1).trans (QDX.out), fun h => (hb1.block (w.heap.size + 1) (Array.getElem?_eq_some_iff.1 (QCX.out h)).1).trans (QCX.out h), Wi.rep_keep (fun _ h => h) (fun k o hk => hb1.cell (p := ⟨k, o, none⟩) (Nat.lt_of_lt_of_le hk.2 (Nat.le_trans HS1.out QSX.out))) _ _ QRX.out, fun h => (by obtain ⟨h1, e0, e1, e2⟩ := G8X.out h; exact ⟨h1, e0, e1, (hb1.block h1 (Array.getElem?_eq_some_iff.1 e2).1).trans e2⟩), fun h => (by obtain ⟨h1, e0, e1, e2⟩ := G9X.out h; exact ⟨h1, e0, e1, (hb1.block h1 (Array.getElem?_eq_some_iff.1 e2).1).trans e2⟩), fun _ => ⟨_, rfl, HH8.out.1, (hb1.block (h8) (Array.getElem?_eq_some_iff.1 (HH8.out.2)).1).trans (HH8.out.2)⟩, fun h => (by obtain ⟨h1, e0, e1, e2⟩ := G11X.out h; exact ⟨h1, e0, e1, (hb1.block h1 (Array.getElem?_eq_some_iff.1 e2).1).trans e2⟩), fun h => (by obtain ⟨h1, e0, e1, e2⟩ := QEX.out h; exact ⟨h1, (hb1.block (w.heap.size + 1) (Array.getElem?_eq_some_iff.1 e0).1).trans e0, e1, (hb1.block h1 (Array.getElem?_eq_some_iff.1 e2).1).trans e2⟩)⟩
    · obtain rfl := Option.some.inj ho
      have l10 := hd ⟨10, .data⟩ (by simp) rfl
      obtain ⟨h8, rfl, hz8, hh8⟩ := g10 l10
      have HH8 := Lib.hid (And.intro hz8 hh8)
      refine wpOp_step rfl fun K hK => ?_
      have F0X := Lib.hid f0
      have F1X := Lib.hid f1
      have F2X := Lib.hid f2
      have F3X := Lib.hid f3
      have F4X := Lib.hid f4
      have F5X := Lib.hid f5
      have F6X := Lib.hid f6
      have F7X := Lib.hid f7
      have F12X := Lib.hid f12
      have F14X := Lib.hid f14
      have U14X := Lib.hid u14
      have QBX := Lib.hid qb
      have QSX := Lib.hid qs
      have QZX := Lib.hid qz
      have QDX := Lib.hid qd
      have QCX := Lib.hid qc
      have QRX := Lib.hid qr
      have G8X := Lib.hid g8
      have G9X := Lib.hid g9
      have G10X := Lib.hid g10
      have G11X := Lib.hid g11
      have QEX := Lib.hid qe
      clear f0 f1 f2 f3 f4 f5 f6 f7 f12 f14 u14 qb qs qz qd qc qr g8 g9 g10 g11 qe hd ho hL l10 hz8 hh8
      go_simp
      refine hK _ _ ?_
      exact ⟨_, _, _, _, _, _, _, _, _, _, _, _, _, _, rfl, F0X.out, F1X.out, F2X.out, F3X.out, F4X.out, F5X.out, F6X.out, F7X.out, F12X.out, F14X.out, U14X.out, QBX.out, QSX.out, QZX.out, QDX.out, QCX.out, QRX.out, G8X.out, G9X.out, G10X.out, fun _ => ⟨_, rfl, HH8.out.1, HH8.out.2⟩, QEX.out⟩
    · obtain rfl := Option.some.inj ho
      have l10 := hd ⟨10, .data⟩ (by simp) rfl
      obtain ⟨h8, rfl, hz8, hh8⟩ := g10 l10
      refine wpOp_step rfl fun K hK => ?_
      have F0X := Lib.hid f0
      have F1X := Lib.hid f1
      have F2X := Lib.hid f2
      have F3X := Lib.hid f3
      have F4X := Lib.hid f4
      have F5X := Lib.hid f5
      have F6X := Lib.hid f6
      have F7X := Lib.hid f7
      have F12X := Lib.hid f12
      have F14X := Lib.hid f14
      have U14X := Lib.hid u14
      have QBX := Lib.hid qb
      have QSX := Lib.hid qs
      have QZX := Lib.hid qz
      have QDX := Lib.hid qd
      have QCX := Lib.hid qc
      have QRX := Lib.hid qr
      have G8X := Lib.hid g8
      have G9X := Lib.hid g9
      have G10X := Lib.hid g10
      have G11X := Lib.hid g11
      have QEX := Lib.hid qe
      clear f0 f1 f2 f3 f4 f5 f6 f7 f12 f14 u14 qb qs qz qd qc qr g8 g9 g10 g11 qe hd ho hL l10 hz8 hh8
      go_simp
      refine hK _ _ ?_
      exact ⟨_, _, _, _, _, _, _, _, _, _, _, _, _, _, rfl, F0X.out, F1X.out, F2X.out, F3X.out, F4X.out, F5X.out, F6X.out, F7X.out, fun _ => rfl, F14X.out, U14X.out, QBX.out, QSX.out, QZX.out, QDX.out, QCX.out, QRX.out, G8X.out, G9X.out, G10X.out, G11X.out, QEX.out⟩
    · obtain rfl := Option.some.inj ho
      have l11 := hd ⟨11, .data⟩ (by simp) rfl
      obtain ⟨h8, rfl, hz8, hh8⟩ := g11 l11
      have HH8 := Lib.hid (And.intro hz8 hh8)
      have hgc := qc hL
      have x0 : W.cell? ⟨w.heap.size + 1, 0, none⟩ = some (.bool false) := by rw [cell_of_row _ _ _ _ _ _ hgc]; rfl
      have x1 : W.cell? ⟨w.heap.size + 1, 1, none⟩ = some (.int .i64 0) := by rw [cell_of_row _ _ _ _ _ _ hgc]; rfl
      have x2 : W.cell? ⟨w.heap.size + 1, 2, none⟩ = some (.string ⟨⟨[]⟩⟩) := by rw [cell_of_row _ _ _ _ _ _ hgc]; rfl
      have x3 : W.cell? ⟨w.heap.size + 1, 3, none⟩ = some (.slice none 0 0) := by rw [cell_of_row _ _ _ _ _ _ hgc]; rfl
      have x4 : W.cell? ⟨w.heap.size + 1, 4, none⟩ = some (.string ⟨⟨[]⟩⟩) := by rw [cell_of_row _ _ _ _ _ _ hgc]; rfl
      have hf := fun k => frozen_of_row _ _ k _ _ hgc
      have HGC := Lib.hid hgc
      refine wpOp_step rfl fun K hK => ?_
      have F0X := Lib.hid f0
      have F1X := Lib.hid f1
      have F2X := Lib.hid f2
      have F3X := Lib.hid f3
      have F4X := Lib.hid f4
      have F5X := Lib.hid f5
      have F6X := Lib.hid f6
      have F7X := Lib.hid f7
      have F12X := Lib.hid f12
      have F14X := Lib.hid f14
      have U14X := Lib.hid u14
      have QBX := Lib.hid qb
      have QSX := Lib.hid qs
      have QZX := Lib.hid qz
      have QDX := Lib.hid qd
      have QCX := Lib.hid qc
      have QRX := Lib.hid qr
      have G8X := Lib.hid g8
      have G9X := Lib.hid g9
      have G10X := Lib.hid g10
      have G11X := Lib.hid g11
      have QEX := Lib.hid qe
      clear f0 f1 f2 f3 f4 f5 f6 f7 f12 f14 u14 qb qs qz qd qc qr g8 g9 g10 g11 qe hd ho hL l11 hz8 hh8 hgc
      go_simp
      refine hK _ _ ?_
      exact ⟨_, _, _, _, _, _, _, _, _, _, _, _, _, _, rfl, F0X.out, F1X.out, F2X.out, F3X.out, F4X.out, F5X.out, F6X.out, F7X.out, F12X.out, F14X.out, U14X.out, set5_below QBX.out (Nat.le_succ _), by rw [set5_size]; exact QSX.out, (set5_other (by omega)).trans QZX.out, (set5_other (by have := HW1.out; omega)).trans QDX.out, nofun, Wi.rep_keep (fun _ h => h) (fun k o hk => World.cell?_of_block (set5_other (by show k ≠ _; have := hk.1; omega))) _ _ QRX.out, fun h => (by obtain ⟨h1, e0, e1, e2⟩ := G8X.out h; exact ⟨h1, e0, e1, (set5_other (by omega)).trans e2⟩), fun h => (by obtain ⟨h1, e0, e1, e2⟩ := G9X.out h; exact ⟨h1, e0, e1, (set5_other (by omega)).trans e2⟩), fun h => (by obtain ⟨h1, e0, e1, e2⟩ := G10X.out h; exact ⟨h1, e0, e1, (set5_other (by omega)).trans e2⟩), fun h => (by obtain ⟨h1, e0, e1, e2⟩ := G11X.out h; exact ⟨h1, e0, e1, (set5_other (by omega)).trans e2⟩), fun _ => ⟨h8, set5_self HGC.out, HH8.out.1, (set5_other (by have := HH8.out.1; omega)).trans HH8.out.2⟩⟩
    · obtain rfl := Option.some.inj ho
      have l12 := hd ⟨12, .data⟩ (by simp) rfl
      obtain rfl := f12 l12
      refine wpOp_step rfl fun K hK => ?_
      have F0X := Lib.hid f0
      have F1X := Lib.hid f1
      have F2X := Lib.hid f2
      have F3X := Lib.hid f3
      have F4X := Lib.hid f4
      have F5X := Lib.hid f5
      have F6X := Lib.hid f6
      have F7X := Lib.hid f7
      have F12X := Lib.hid f12
      have F14X := Lib.hid f14
      have U14X := Lib.hid u14
      have QBX := Lib.hid qb
      have QSX := Lib.hid qs
      have QZX := Lib.hid qz
      have QDX := Lib.hid qd
      have QCX := Lib.hid qc
      have QRX := Lib.hid qr
      have G8X := Lib.hid g8
      have G9X := Lib.hid g9
      have G10X := Lib.hid g10
      have G11X := Lib.hid g11
      have QEX := Lib.hid qe
      clear f0 f1 f2 f3 f4 f5 f6 f7 f12 f14 u14 qb qs qz qd qc qr g8 g9 g10 g11 qe hd ho hL l12
      go_simp
      refine hK _ _ ?_
      exact ⟨_, _, _, _, _, _, _, _, _, _, _, _, _, _, rfl, F0X.out, F1X.out, F2X.out, F3X.out, F4X.out, F5X.out, F6X.out, F7X.out, F12X.out, fun _ => rfl, nofun, QBX.out, QSX.out, QZX.out, QDX.out, QCX.out, QRX.out, G8X.out, G9X.out, G10X.out, G11X.out, QEX.out⟩
    · simp at ho
  · rintro L _ w3 ⟨t33, t34, t35, t36, t37, t38, t39, t40, t41, t42, t43, t44, t45, t5, rfl, f0, f1, f2, f3, f4, f5, f6, f7, f12, f14, u14, qb, qs, qz, qd, qc, qr, g8, g9, g10, g11, qe⟩ hall
    obtain rfl := f0 (hall 0 (by decide))
    obtain rfl := f1 (hall 1 (by decide))
    obtain rfl := f2 (hall 2 (by decide))
    obtain rfl := f3 (hall 3 (by decide))
    obtain rfl := f4 (hall 4 (by decide))
    obtain rfl := f5 (hall 5 (by decide))
    obtain rfl := f6 (hall 6 (by decide))
    obtain rfl := f7 (hall 7 (by decide))
    obtain rfl := f12 (hall 12 (by decide))
    obtain rfl := f14 (hall 14 (by decide))
    obtain ⟨hh, e0, e1, e2⟩ := qe (hall 13 (by decide))
    have QR := Lib.hid (HR.out w3 hh e2 qr (Nat.le_trans HS1.out qs) (by omega) qb)
    have y0 : w3.cell? ⟨w.heap.size + 1, 0, none⟩ = some (.bool true) := by rw [cell_of_row _ _ _ _ _ _ e0]; rfl
    have y1 : w3.cell? ⟨w.heap.size + 1, 1, none⟩ = some (.int .i64 6) := by rw [cell_of_row _ _ _ _ _ _ e0]; rfl
    have y2 : w3.cell? ⟨w.heap.size + 1, 2, none⟩ = some (.string ⟨⟨[]⟩⟩) := by rw [cell_of_row _ _ _ _ _ _ e0]; rfl
    have y3 : w3.cell? ⟨w.heap.size + 1, 3, none⟩ = some (.slice (some ⟨hh, 0, none⟩) 3 3) := by rw [cell_of_row _ _ _ _ _ _ e0]; rfl
    have y4 : w3.cell? ⟨w.heap.size + 1, 4, none⟩ = some (.string ⟨⟨P⟩⟩) := by rw [cell_of_row _ _ _ _ _ _ e0]; rfl
    clear qb qs qz qd qc qr g8 g9 g10 g11 qe hall e0 e1 e2 HR HWR HNUM HLEAF HNODE
    go_wp2
    refine bodyPost_ret (v := .tuple #[.agg #[.bool true, .int .i64 6, .string ⟨⟨[]⟩⟩, .slice (some ⟨hh, 0, none⟩) 3 3, .string ⟨⟨P⟩⟩], .int .i64 0]) (by simp [results, Tryz.results65, go_sem, y0, y1, y2, y3, y4]) rfl QR.out
end Go.Proofs.YticofjbngfjjlaaGreatDoor.Cy

