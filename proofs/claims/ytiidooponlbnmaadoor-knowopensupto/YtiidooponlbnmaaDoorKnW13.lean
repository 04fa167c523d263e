/- The law's shows: does a key stand in a term? (Laid with NS=1.) -/
import Derived.Test.YtiidooponlbnmaaDoorKnL1
namespace Go.Proofs.YtiidooponlbnmaaDoor.Kn
open Go.RowKit Go.Sort
open Te Te.Tt
open Go (Lit DataW MemPlace keyOf maxLen)

mutual
def shw (key guard : Tm) : Tm → Bool
  | .mk k s n l => decide (Tm.mk k s n l = key) || (if k = 4 ∧ l.length = 2 ∧ hd1 l = guard ∧ key ≠ guard then false else (if k = 4 ∨ k = 5 then (shws key guard l).drop 1 else shws key guard l).any id)
def shws (key guard : Tm) : List Tm → List Bool
  | [] => []
  | x :: r => shw key guard x :: shws key guard r
end
theorem shws_map (key guard : Tm) : ∀ l, shws key guard l = l.map (shw key guard)
  | [] => by rw [shws]; rfl
  | x :: r => by rw [shws, shws_map key guard r]; rfl
theorem any_hit {l : List Bool} {sk : Prop} [Decidable sk] {i : Nat} (h : l[i]? = some true) (hn : ¬ (sk ∧ i = 0)) : (if sk then l.drop 1 else l).any id = true := by
  rw [List.any_eq_true]
  refine ⟨true, ?_, rfl⟩
  by_cases hs : sk
  · rw [if_pos hs]
    have h0 : i ≠ 0 := fun e => hn ⟨hs, e⟩
    refine List.mem_of_getElem? (i := i - 1) ?_
    rw [List.getElem?_drop, show 1 + (i - 1) = i by omega]
    exact h
  · rw [if_neg hs]
    exact List.mem_of_getElem? h
theorem any_none {l : List Bool} {sk : Prop} [Decidable sk] (h : ∀ j, j < l.length → (sk ∧ j = 0) ∨ l[j]? = some false) : (if sk then l.drop 1 else l).any id = false := by
  rw [List.any_eq_false]
  intro b hb
  have key : ∃ j, l[j]? = some b ∧ ¬ (sk ∧ j = 0) := by
    by_cases hs : sk
    · rw [if_pos hs] at hb
      obtain ⟨j, hj⟩ := List.mem_iff_getElem?.1 hb
      rw [List.getElem?_drop] at hj
      exact ⟨1 + j, hj, fun e => by omega⟩
    · rw [if_neg hs] at hb
      obtain ⟨j, hj⟩ := List.mem_iff_getElem?.1 hb
      exact ⟨j, hj, fun e => hs e.1⟩
  obtain ⟨j, hj, hn⟩ := key
  have hlt := (List.getElem?_eq_some_iff.1 hj).1
  rcases h j hlt with h1 | h1
  · exact absurd h1 hn
  · rw [hj] at h1
    injection h1 with h1
    subst h1
    simp

def skp (k : Int) : Prop := k = 4 ∨ k = 5
instance (k : Int) : Decidable (skp k) := inferInstanceAs (Decidable (k = 4 ∨ k = 5))
def tpl (key guard : Tm) (k : Int) (l : List Tm) : Prop := k = 4 ∧ l.length = 2 ∧ hd1 l = guard ∧ key ≠ guard
theorem shw_no {key guard : Tm} {k : Int} {s : List UInt8} {n : Int} {l : List Tm} (h : Tm.mk k s n l ≠ key) (ht : ¬ tpl key guard k l) : shw key guard (.mk k s n l) = (if skp k then (shws key guard l).drop 1 else shws key guard l).any id := by
  have ht' : ¬ (k = 4 ∧ l.length = 2 ∧ hd1 l = guard ∧ key ≠ guard) := ht
  rw [shw, decide_eq_false h, if_neg ht']
  rfl
theorem shw_yes {key guard : Tm} {k : Int} {s : List UInt8} {n : Int} {l : List Tm} (h : Tm.mk k s n l ≠ key) (ht : tpl key guard k l) : shw key guard (.mk k s n l) = false := by
  have ht' : k = 4 ∧ l.length = 2 ∧ hd1 l = guard ∧ key ≠ guard := ht
  rw [shw, decide_eq_false h, if_pos ht']
  rfl

def ShowsSaid (key guard x : Tm) : Prop := ∀ (S : Nat → Prop) (v vk vg : Value) (w : World), sz x ≤ 262144 → Rep w S x v → Rep w S key vk → Rep w S guard vg → (∀ b, S b → b < w.heap.size) →
  Calls Tryd.prog 25 #[v, vk, vg] w fun e w' => e = .returned (.bool (shw key guard x)) ∧ Below w.heap.size w w'

set_option maxHeartbeats 8000000 in
set_option maxRecDepth 100000 in
theorem shows_of (key guard : Tm) (hkz : sz key ≤ 262144) (k : Int) (t : List UInt8) (n : Int) (l : List Tm) (ih : ∀ x ∈ l, ShowsSaid key guard x) : ShowsSaid key guard (.mk k t n l) := by
  intro S v vk vg w hsz hr hrk hrg hS
  have hr0 := hr
  have hrk0 := hrk
  have hrg0 := hrg
  obtain ⟨A, ca, rfl, hn, hrow⟩ := rep_mk.1 hr
  obtain ⟨kk, kt, kn, kl⟩ := key
  obtain ⟨gk, gt, gn, gl⟩ := guard
  obtain ⟨KA, kc, rfl, -, -⟩ := rep_mk.1 hrk
  obtain ⟨GA, gc, rfl, -, -⟩ := rep_mk.1 hrg
  obtain ⟨z, hz⟩ : ∃ z, z = w.heap.size := ⟨_, rfl⟩
  obtain ⟨W, hW⟩ : ∃ W, W = ((w.alloc (.cells #[.int .i64 k, .string ⟨⟨t⟩⟩, .int .i64 n, .slice A l.length ca] 33)).alloc (.cells #[.int .i64 kk, .string ⟨⟨kt⟩⟩, .int .i64 kn, .slice KA kl.length kc] 33)).alloc (.cells #[.int .i64 gk, .string ⟨⟨gt⟩⟩, .int .i64 gn, .slice GA gl.length gc] 33) := ⟨_, rfl⟩
  have hb : Below w.heap.size w W := by rw [hW]; exact (((Below.refl _ _).alloc (Nat.le_refl _) _).alloc (by simp) _).alloc (by simp; omega) _
  have hg0 : W.heap[z]? = some (.cells #[.int .i64 k, .string ⟨⟨t⟩⟩, .int .i64 n, .slice A l.length ca] 33 (0, 0)) := by
    rw [hW, Below.heap_alloc _ _ _ (by simp; omega), Below.heap_alloc _ _ _ (by simp; omega), hz]; exact heap_alloc_new w _
  have hg1 : W.heap[z + 1]? = some (.cells #[.int .i64 kk, .string ⟨⟨kt⟩⟩, .int .i64 kn, .slice KA kl.length kc] 33 (0, 0)) := by
    have e := heap_alloc_new (w.alloc (.cells #[.int .i64 k, .string ⟨⟨t⟩⟩, .int .i64 n, .slice A l.length ca] 33)) (.cells #[.int .i64 kk, .string ⟨⟨kt⟩⟩, .int .i64 kn, .slice KA kl.length kc] 33)
    have es : (w.alloc (.cells #[.int .i64 k, .string ⟨⟨t⟩⟩, .int .i64 n, .slice A l.length ca] 33)).heap.size = z + 1 := by rw [hz]; simp
    rw [es] at e
    rw [hW, Below.heap_alloc _ _ _ (by simp; omega)]; exact e
  have hg2 : W.heap[z + 1 + 1]? = some (.cells #[.int .i64 gk, .string ⟨⟨gt⟩⟩, .int .i64 gn, .slice GA gl.length gc] 33 (0, 0)) := by
    have e := heap_alloc_new ((w.alloc (.cells #[.int .i64 k, .string ⟨⟨t⟩⟩, .int .i64 n, .slice A l.length ca] 33)).alloc (.cells #[.int .i64 kk, .string ⟨⟨kt⟩⟩, .int .i64 kn, .slice KA kl.length kc] 33)) (.cells #[.int .i64 gk, .string ⟨⟨gt⟩⟩, .int .i64 gn, .slice GA gl.length gc] 33)
    have es : ((w.alloc (.cells #[.int .i64 k, .string ⟨⟨t⟩⟩, .int .i64 n, .slice A l.length ca] 33)).alloc (.cells #[.int .i64 kk, .string ⟨⟨kt⟩⟩, .int .i64 kn, .slice KA kl.length kc] 33)).heap.size = z + 1 + 1 := by rw [hz]; simp
    rw [es] at e
    rw [hW]; exact e
  have HFA : Hid (∀ W', Below W.heap.size W W' → Rep W' S (.mk k t n l) (.agg #[.int .i64 k, .string ⟨⟨t⟩⟩, .int .i64 n, .slice A l.length ca]) ∧ Rep W' S (.mk kk kt kn kl) (.agg #[.int .i64 kk, .string ⟨⟨kt⟩⟩, .int .i64 kn, .slice KA kl.length kc]) ∧ Rep W' S (.mk gk gt gn gl) (.agg #[.int .i64 gk, .string ⟨⟨gt⟩⟩, .int .i64 gn, .slice GA gl.length gc]) ∧ TRow W' S l A ∧ ∀ b, S b → b < W'.heap.size) := fun W' hW' => by
    have h := hb.trans (hW'.mono hb.size)
    exact ⟨rep_below hr0 h hS, rep_below hrk0 h hS, rep_below hrg0 h hS, trow_below hrow h hS, fun i hi => Nat.lt_of_lt_of_le (hS i hi) h.size⟩
  have HCE : Hid (∀ W', Below W.heap.size W W' → W'.heap[z]? = some (.cells #[.int .i64 k, .string ⟨⟨t⟩⟩, .int .i64 n, .slice A l.length ca] 33 (0, 0)) ∧ W'.heap[z + 1]? = some (.cells #[.int .i64 kk, .string ⟨⟨kt⟩⟩, .int .i64 kn, .slice KA kl.length kc] 33 (0, 0)) ∧ W'.heap[z + 1 + 1]? = some (.cells #[.int .i64 gk, .string ⟨⟨gt⟩⟩, .int .i64 gn, .slice GA gl.length gc] 33 (0, 0))) := fun W' hW' =>
    ⟨(hW'.block _ (Array.getElem?_eq_some_iff.1 hg0).1).trans hg0, (hW'.block _ (Array.getElem?_eq_some_iff.1 hg1).1).trans hg1, (hW'.block _ (Array.getElem?_eq_some_iff.1 hg2).1).trans hg2⟩
  obtain ⟨r, hrr⟩ : ∃ r, r = shw (.mk kk kt kn kl) (.mk gk gt gn gl) (.mk k t n l) := ⟨_, rfl⟩
  obtain ⟨b0, hb0⟩ : ∃ b0, b0 = decide (ord (.mk k t n l) (.mk kk kt kn kl) = 0) := ⟨_, rfl⟩
  have HS0 := Same_any (.mk k t n l) (.mk kk kt kn kl) S _ _ W hsz (HFA.out W (Below.refl _ _)).1 (HFA.out W (Below.refl _ _)).2.1 (HFA.out W (Below.refl _ _)).2.2.2.2
  rw [← hb0] at HS0
  rw [← hrr]
  have HS0 := Lib.hid HS0
  have HRR := Lib.hid hrr
  have HBB := Lib.hid hb0
  have HB := Lib.hid hb
  have HZ := Lib.hid hz
  have HWW := Lib.hid hW
  have HIH := Lib.hid ih
  have HSZ := Lib.hid hsz
  have HKZ := Lib.hid hkz
  clear hr hr0 hrk hrk0 hrg hrg0 hS hrow hz hW hb hg0 hg1 hg2 hrr hb0 ih hsz hkz
  go_enter Tryd.func25, Tryd.ntmps25
  go_wp2_with fail
  rw [← HWW.out, ← HZ.out]
  refine HS0.out.mono ?_
  rintro _ w1 ⟨rfl, hb1⟩
  have HB1 := Lib.hid hb1
  clear hb1 HS0 HWW
  cases b0
  case true =>
    have e := of_decide_eq_true HBB.out.symm
    rw [ord_zero] at e
    go_wp2
    go_ret
    have hr : r = true := by rw [HRR.out, shw, decide_eq_true e]; rfl
    exact ⟨by rw [hr]; rfl, HB.out.trans (HB1.out.mono HB.out.size)⟩
  case false =>
  have hne : Tm.mk k t n l ≠ .mk kk kt kn kl := fun e => by
    have := of_decide_eq_false HBB.out.symm
    rw [ord_zero] at this
    exact this e
  have HNE := Lib.hid hne
  obtain ⟨m, hm⟩ : ∃ m, m = l.length := ⟨_, rfl⟩
  obtain ⟨ce0, ce1, ce2⟩ := HCE.out w1 HB1.out
  obtain ⟨c0, c1, c2, c3⟩ := cell4 ce0
  obtain ⟨d0, d1, d2, d3⟩ := cell4 ce1
  obtain ⟨e0, e1, e2, e3⟩ := cell4 ce2
  rw [← hm] at c3 HCE ⊢
  have HM := Lib.hid hm
  clear hne hm ce0 ce1 ce2
  -- what the loop wants
  have hm64 : m ≤ 262144 := by have := HSZ.out; rw [sz] at this; have := szs_len l; have := HM.out; omega
  -- CASES
  by_cases hk4 : k = 4
  · subst hk4
    by_cases hm2 : m = 2
    · obtain ⟨a, y, hl⟩ : ∃ a y, l = [a, y] := by
        have := HM.out
        match l, this with
        | [a, y], _ => exact ⟨a, y, rfl⟩
        | [], h => simp at h; omega
        | [_], h => simp at h; omega
        | _ :: _ :: _ :: _, h => simp at h; omega
      subst hm2
      have HL := Lib.hid hl
      have hf := HFA.out w1 HB1.out
      have hrow := hf.2.2.2.1
      rw [hl] at hrow
      obtain ⟨gb, go, x0, x1, x2, x3, y0, y1, y2, y3, hA, hgb, q0, q1, q2, q3, hra, -, -, -, -, -⟩ := trow_twoR hrow
      subst hA
      have hSw := hf.2.2.2.2
      have hsa : sz a ≤ 262144 := by have := HSZ.out; rw [hl] at this; simp only [sz, Te.Tt.szs] at this; omega
      obtain ⟨b1, hb1⟩ : ∃ b1, b1 = decide (ord a (Tm.mk gk gt gn gl) = 0) := ⟨_, rfl⟩
      obtain ⟨b2, hb2⟩ : ∃ b2, b2 = decide (ord (Tm.mk kk kt kn kl) (Tm.mk gk gt gn gl) = 0) := ⟨_, rfl⟩
      have k1 : ∀ d os, Calls Tryd.prog 24 #[.agg #[x0, x1, x2, x3], .agg #[.int .i64 gk, .string ⟨⟨gt⟩⟩, .int .i64 gn, .slice GA gl.length gc]] (Go.Sort.grow (redrawn w1 d) os) fun e w'' => e = .returned (.bool b1) ∧ ∃ p : Regrown, w'' = Go.Sort.grow (redrawn w1 p.d) p.os := fun d os => by
        have hh := HFA.out _ (HB1.out.trans ((below_regrown w1 d os).mono HB1.out.size))
        rw [hb1]
        exact Calls.regrown_of (Same_any a (Tm.mk gk gt gn gl) S _ _ _ hsa (rep_below hra (below_regrown w1 d os) hSw) hh.2.2.1 hh.2.2.2.2)
      have k2 : ∀ d os, Calls Tryd.prog 24 #[.agg #[.int .i64 kk, .string ⟨⟨kt⟩⟩, .int .i64 kn, .slice KA kl.length kc], .agg #[.int .i64 gk, .string ⟨⟨gt⟩⟩, .int .i64 gn, .slice GA gl.length gc]] (Go.Sort.grow (redrawn w1 d) os) fun e w'' => e = .returned (.bool b2) ∧ ∃ p : Regrown, w'' = Go.Sort.grow (redrawn w1 p.d) p.os := fun d os => by
        have hh := HFA.out _ (HB1.out.trans ((below_regrown w1 d os).mono HB1.out.size))
        rw [hb2]
        exact Calls.regrown_of (Same_any (Tm.mk kk kt kn kl) (Tm.mk gk gt gn gl) S _ _ _ HKZ.out hh.2.1 hh.2.2.1 hh.2.2.2.2)
      have HK12 := Lib.hid (And.intro k1 k2)
      have HB1E := Lib.hid (show b1 = decide (a = (Tm.mk gk gt gn gl)) by rw [hb1]; simp [ord_zero])
      have HB2E := Lib.hid (show b2 = decide ((Tm.mk kk kt kn kl) = (Tm.mk gk gt gn gl)) by rw [hb2]; simp [ord_zero])
      have HQ := Lib.hid (And.intro q0 (And.intro q1 (And.intro q2 q3)))
      clear hl hf hrow hra hSw hsa hb1 hb2 k1 k2 hgb
      cases b1
      case false =>
        have HTF : Hid (¬ tpl (Tm.mk kk kt kn kl) (Tm.mk gk gt gn gl) 4 l) := fun h => by
          have h1 := h.2.2.1
          rw [HL.out] at h1
          exact of_decide_eq_false HB1E.out.symm h1
        clear HB1E HB2E HL
        go_wp2_with fail
        have i0 := cell_regrown c0
        have i1 := cell_regrown c1
        have i2 := cell_regrown c2
        have i3 := cell_regrown c3
        have j0 := cell_regrown d0
        have j1 := cell_regrown d1
        have j2 := cell_regrown d2
        have j3 := cell_regrown d3
        have l0 := cell_regrown e0
        have l1 := cell_regrown e1
        have l2 := cell_regrown e2
        have l3 := cell_regrown e3
        obtain ⟨k1, k2⟩ := HK12.out
        obtain ⟨q0, q1, q2, q3⟩ := HQ.out
        have r0 := cell_regrown q0
        have r1 := cell_regrown q1
        have r2 := cell_regrown q2
        have r3 := cell_regrown q3
        refine wp_region_quiet_below (by kernel_rfl) (by kernel_rfl) ?_
        repeat (quiet_step (first | with_reducible exact k1 _ _ | with_reducible exact k2 _ _))
        refine wpQuiet_nil ?_
        intro _ hw'
        obtain ⟨⟨dq, osq⟩, hw''⟩ := hw'
        subst hw''
        have HB2 := Lib.hid (HB1.out.trans ((below_regrown w1 dq osq).mono HB1.out.size))
        clear i0 i1 i2 i3 j0 j1 j2 j3 l0 l1 l2 l3 c0 c1 c2 c3 d0 d1 d2 d3 e0 e1 e2 e3 k1 k2 q0 q1 q2 q3 r0 r1 r2 r3 HK12 HQ
        generalize Go.Sort.grow (redrawn w1 dq) osq = w2 at *
        have HR : Hid (r = (if skp 4 then (shws (Tm.mk kk kt kn kl) (Tm.mk gk gt gn gl) l).drop 1 else shws (Tm.mk kk kt kn kl) (Tm.mk gk gt gn gl) l).any id) := HRR.out.trans (shw_no HNE.out HTF.out)
        have HBL := Lib.hid (show (shws (Tm.mk kk kt kn kl) (Tm.mk gk gt gn gl) l).length = 2 by rw [shws_map, List.length_map, HM.out])
        have HII := Lib.hid (fun (x : Tm) (hx : x ∈ l) => HIH.out x hx)
        clear HRR HTF HNE HIH HBB
        obtain ⟨ce0, ce1, ce2⟩ := HCE.out w2 HB2.out
        clear ce0 ce1 ce2
        go_wp2_with fail
        go_loopw [7] (fun iv wr => ∃ i : Nat, i ≤ 2 ∧ iv = .int .i64 (i : Nat) ∧ Hid (∀ j, j < i → (skp 4 ∧ j = 0) ∨ (shws (Tm.mk kk kt kn kl) (Tm.mk gk gt gn gl) l)[j]? = some false) ∧ Hid (Below W.heap.size W wr)) (fun iv _ => 2 - (intOf iv).toNat)
        case atStart => exact ⟨0, by omega, rfl, Lib.hid (fun j hj => absurd hj (Nat.not_lt_zero j)), HB2⟩
        case round =>
          obtain ⟨i, hi, rfl, HA, HBw⟩ := hrel
          obtain ⟨ce0, ce1, ce2⟩ := HCE.out wr HBw.out
          obtain ⟨c0, c1, c2, c3⟩ := cell4 ce0
          obtain ⟨d0, d1, d2, d3⟩ := cell4 ce1
          obtain ⟨e0, e1, e2, e3⟩ := cell4 ce2
          clear ce0 ce1 ce2
          by_cases hlt : i < 2
          · have hil : (i : Int) < ((2 : Nat) : Int) := by omega
            by_cases hsk : skp 4 ∧ i = 0
            · have HA2 : Hid (∀ j, j < i + 1 → (skp 4 ∧ j = 0) ∨ (shws (Tm.mk kk kt kn kl) (Tm.mk gk gt gn gl) l)[j]? = some false) := fun j hj => .inl ⟨hsk.1, by omega⟩
              obtain ⟨h45, rfl⟩ := hsk
              clear HA d0 d1 d2 d3 e0 e1 e2 e3
              clear h45
              go_wp2
              go_roundw
              case rel => exact ⟨1, by omega, by go_num, HA2, HBw⟩
              case measure => simp [intOf] <;> omega
            · have hlt1 : i < l.length := by rw [← HM.out]; exact hlt
              have hSb := (HFA.out wr HBw.out).2.2.2.2
              obtain ⟨b, o, k', s', p', y, C, cy, hA, hSb', hx, x0, x1, x2, x3, hrep⟩ := trow_get (HFA.out wr HBw.out).2.2.2.1 (Below.refl wr.heap.size wr) hSb hlt1
              injection hA with hA; injection hA with e1x e2x; subst e1x e2x
              have hmem := List.getElem_mem hlt1
              have hbi : (shws (Tm.mk kk kt kn kl) (Tm.mk gk gt gn gl) l)[i]? = some (shw (Tm.mk kk kt kn kl) (Tm.mk gk gt gn gl) l[i]) := by rw [shws_map, List.getElem?_map, List.getElem?_eq_getElem hlt1]; rfl
              rw [hx] at hmem hbi
              have hszx : sz (.mk k' s' p' y) ≤ 262144 := by
                have h1 := szs_mem l _ hmem
                have h2 := HSZ.out
                rw [sz] at h2
                omega
              obtain ⟨bi, hbb⟩ : ∃ bi, bi = shw (Tm.mk kk kt kn kl) (Tm.mk gk gt gn gl) (.mk k' s' p' y) := ⟨_, rfl⟩
              rw [← hbb] at hbi
              have kR : ∀ d os, Calls Tryd.prog 25 #[.agg #[.int .i64 k', .string ⟨⟨s'⟩⟩, .int .i64 p', .slice C y.length cy], .agg #[.int .i64 kk, .string ⟨⟨kt⟩⟩, .int .i64 kn, .slice KA kl.length kc], .agg #[.int .i64 gk, .string ⟨⟨gt⟩⟩, .int .i64 gn, .slice GA gl.length gc]] (Go.Sort.grow (redrawn wr d) os) fun e w'' => e = .returned (.bool bi) ∧ ∃ p : Regrown, w'' = Go.Sort.grow (redrawn wr p.d) p.os := fun d os => by
                have hh := HFA.out _ (HBw.out.trans ((below_regrown wr d os).mono HBw.out.size))
                rw [hbb]
                exact Calls.regrown_of (HII.out _ hmem S _ _ _ _ hszx (rep_below hrep (below_regrown wr d os) hSb) hh.2.1 hh.2.2.1 hh.2.2.2.2)
              have HKR := Lib.hid kR
              have HBI := Lib.hid hbi
              have HSK := Lib.hid hsk
              have hno : ¬ (i = 0 ∧ skp 4) := fun h => hsk ⟨h.2, h.1⟩
              clear hx hrep hmem hbi hszx hbb kR hSb hSb' hsk
              have hi0 : ¬ i = 0 := fun e => hno ⟨e, .inl rfl⟩
              have hi1 : ¬ (i : Int) = 0 := by omega
              have hi2 : ((i : Int) == 0) = false := by simpa using hi0
              clear hno
              go_wp2_with fail
              have i0 := cell_regrown c0
              have i1 := cell_regrown c1
              have i2 := cell_regrown c2
              have i3 := cell_regrown c3
              have j0 := cell_regrown d0
              have j1 := cell_regrown d1
              have j2 := cell_regrown d2
              have j3 := cell_regrown d3
              have l0 := cell_regrown e0
              have l1 := cell_regrown e1
              have l2 := cell_regrown e2
              have l3 := cell_regrown e3
              have y0 := cell_regrown x0
              have y1 := cell_regrown x1
              have y2 := cell_regrown x2
              have y3 := cell_regrown x3
              have kR := HKR.out
              refine wp_region_quiet_below (by kernel_rfl) (by kernel_rfl) ?_
              repeat (quiet_step (with_reducible exact kR _ _))
              refine wpQuiet_nil ?_
              intro _ hw'
              obtain ⟨⟨dq, osq⟩, hw''⟩ := hw'
              subst hw''
              have HB3 := Lib.hid (HBw.out.trans ((below_regrown wr dq osq).mono HBw.out.size))
              clear i0 i1 i2 i3 j0 j1 j2 j3 l0 l1 l2 l3 y0 y1 y2 y3 c0 c1 c2 c3 d0 d1 d2 d3 e0 e1 e2 e3 x0 x1 x2 x3 kR HKR
              generalize Go.Sort.grow (redrawn wr dq) osq = w5 at *
              cases bi
              case true =>
                have hrt : r = true := by rw [HR.out]; exact any_hit HBI.out HSK.out
                have HRT := Lib.hid hrt
                clear hrt HA HBI HSK
                go_wp2
                go_ret
                exact ⟨by rw [HRT.out]; rfl, HB.out.trans (HB3.out.mono HB.out.size)⟩
              case false =>
                have HA2 : Hid (∀ j, j < i + 1 → (skp 4 ∧ j = 0) ∨ (shws (Tm.mk kk kt kn kl) (Tm.mk gk gt gn gl) l)[j]? = some false) := fun j hj => by
                  by_cases e : j = i
                  · rw [e]; exact .inr HBI.out
                  · exact HA.out j (by omega)
                clear HA HBI HSK
                go_wp2
                go_roundw
                case rel => exact ⟨i + 1, by omega, by go_num, HA2, HB3⟩
                case measure => simp [intOf] <;> omega
          · obtain rfl : i = 2 := by omega
            have hrf : r = false := by rw [HR.out]; exact any_none (fun j hj => HA.out j (by rw [HBL.out] at hj; exact hj))
            have HRF := Lib.hid hrf
            clear hrf HA d0 d1 d2 d3 e0 e1 e2 e3 hlt
            go_wp2
            go_ret
            exact ⟨by rw [HRF.out]; rfl, HB.out.trans (HBw.out.mono HB.out.size)⟩

      case true =>
        cases b2
        case true =>
          have HTF : Hid (¬ tpl (Tm.mk kk kt kn kl) (Tm.mk gk gt gn gl) 4 l) := fun h => h.2.2.2 (of_decide_eq_true HB2E.out.symm)
          clear HB1E HB2E HL
          go_wp2_with fail
          have i0 := cell_regrown c0
          have i1 := cell_regrown c1
          have i2 := cell_regrown c2
          have i3 := cell_regrown c3
          have j0 := cell_regrown d0
          have j1 := cell_regrown d1
          have j2 := cell_regrown d2
          have j3 := cell_regrown d3
          have l0 := cell_regrown e0
          have l1 := cell_regrown e1
          have l2 := cell_regrown e2
          have l3 := cell_regrown e3
          obtain ⟨k1, k2⟩ := HK12.out
          obtain ⟨q0, q1, q2, q3⟩ := HQ.out
          have r0 := cell_regrown q0
          have r1 := cell_regrown q1
          have r2 := cell_regrown q2
          have r3 := cell_regrown q3
          refine wp_region_quiet_below (by kernel_rfl) (by kernel_rfl) ?_
          repeat (quiet_step (first | with_reducible exact k1 _ _ | with_reducible exact k2 _ _))
          refine wpQuiet_nil ?_
          intro _ hw'
          obtain ⟨⟨dq, osq⟩, hw''⟩ := hw'
          subst hw''
          have HB2 := Lib.hid (HB1.out.trans ((below_regrown w1 dq osq).mono HB1.out.size))
          clear i0 i1 i2 i3 j0 j1 j2 j3 l0 l1 l2 l3 c0 c1 c2 c3 d0 d1 d2 d3 e0 e1 e2 e3 k1 k2 q0 q1 q2 q3 r0 r1 r2 r3 HK12 HQ
          generalize Go.Sort.grow (redrawn w1 dq) osq = w2 at *
          have HR : Hid (r = (if skp 4 then (shws (Tm.mk kk kt kn kl) (Tm.mk gk gt gn gl) l).drop 1 else shws (Tm.mk kk kt kn kl) (Tm.mk gk gt gn gl) l).any id) := HRR.out.trans (shw_no HNE.out HTF.out)
          have HBL := Lib.hid (show (shws (Tm.mk kk kt kn kl) (Tm.mk gk gt gn gl) l).length = 2 by rw [shws_map, List.length_map, HM.out])
          have HII := Lib.hid (fun (x : Tm) (hx : x ∈ l) => HIH.out x hx)
          clear HRR HTF HNE HIH HBB
          obtain ⟨ce0, ce1, ce2⟩ := HCE.out w2 HB2.out
          clear ce0 ce1 ce2
          go_wp2_with fail
          go_loopw [7] (fun iv wr => ∃ i : Nat, i ≤ 2 ∧ iv = .int .i64 (i : Nat) ∧ Hid (∀ j, j < i → (skp 4 ∧ j = 0) ∨ (shws (Tm.mk kk kt kn kl) (Tm.mk gk gt gn gl) l)[j]? = some false) ∧ Hid (Below W.heap.size W wr)) (fun iv _ => 2 - (intOf iv).toNat)
          case atStart => exact ⟨0, by omega, rfl, Lib.hid (fun j hj => absurd hj (Nat.not_lt_zero j)), HB2⟩
          case round =>
            obtain ⟨i, hi, rfl, HA, HBw⟩ := hrel
            obtain ⟨ce0, ce1, ce2⟩ := HCE.out wr HBw.out
            obtain ⟨c0, c1, c2, c3⟩ := cell4 ce0
            obtain ⟨d0, d1, d2, d3⟩ := cell4 ce1
            obtain ⟨e0, e1, e2, e3⟩ := cell4 ce2
            clear ce0 ce1 ce2
            by_cases hlt : i < 2
            · have hil : (i : Int) < ((2 : Nat) : Int) := by omega
              by_cases hsk : skp 4 ∧ i = 0
              · have HA2 : Hid (∀ j, j < i + 1 → (skp 4 ∧ j = 0) ∨ (shws (Tm.mk kk kt kn kl) (Tm.mk gk gt gn gl) l)[j]? = some false) := fun j hj => .inl ⟨hsk.1, by omega⟩
                obtain ⟨h45, rfl⟩ := hsk
                clear HA d0 d1 d2 d3 e0 e1 e2 e3
                clear h45
                go_wp2
                go_roundw
                case rel => exact ⟨1, by omega, by go_num, HA2, HBw⟩
                case measure => simp [intOf] <;> omega
              · have hlt1 : i < l.length := by rw [← HM.out]; exact hlt
                have hSb := (HFA.out wr HBw.out).2.2.2.2
                obtain ⟨b, o, k', s', p', y, C, cy, hA, hSb', hx, x0, x1, x2, x3, hrep⟩ := trow_get (HFA.out wr HBw.out).2.2.2.1 (Below.refl wr.heap.size wr) hSb hlt1
                injection hA with hA; injection hA with e1x e2x; subst e1x e2x
                have hmem := List.getElem_mem hlt1
                have hbi : (shws (Tm.mk kk kt kn kl) (Tm.mk gk gt gn gl) l)[i]? = some (shw (Tm.mk kk kt kn kl) (Tm.mk gk gt gn gl) l[i]) := by rw [shws_map, List.getElem?_map, List.getElem?_eq_getElem hlt1]; rfl
                rw [hx] at hmem hbi
                have hszx : sz (.mk k' s' p' y) ≤ 262144 := by
                  have h1 := szs_mem l _ hmem
                  have h2 := HSZ.out
                  rw [sz] at h2
                  omega
                obtain ⟨bi, hbb⟩ : ∃ bi, bi = shw (Tm.mk kk kt kn kl) (Tm.mk gk gt gn gl) (.mk k' s' p' y) := ⟨_, rfl⟩
                rw [← hbb] at hbi
                have kR : ∀ d os, Calls Tryd.prog 25 #[.agg #[.int .i64 k', .string ⟨⟨s'⟩⟩, .int .i64 p', .slice C y.length cy], .agg #[.int .i64 kk, .string ⟨⟨kt⟩⟩, .int .i64 kn, .slice KA kl.length kc], .agg #[.int .i64 gk, .string ⟨⟨gt⟩⟩, .int .i64 gn, .slice GA gl.length gc]] (Go.Sort.grow (redrawn wr d) os) fun e w'' => e = .returned (.bool bi) ∧ ∃ p : Regrown, w'' = Go.Sort.grow (redrawn wr p.d) p.os := fun d os => by
                  have hh := HFA.out _ (HBw.out.trans ((below_regrown wr d os).mono HBw.out.size))
                  rw [hbb]
                  exact Calls.regrown_of (HII.out _ hmem S _ _ _ _ hszx (rep_below hrep (below_regrown wr d os) hSb) hh.2.1 hh.2.2.1 hh.2.2.2.2)
                have HKR := Lib.hid kR
                have HBI := Lib.hid hbi
                have HSK := Lib.hid hsk
                have hno : ¬ (i = 0 ∧ skp 4) := fun h => hsk ⟨h.2, h.1⟩
                clear hx hrep hmem hbi hszx hbb kR hSb hSb' hsk
                have hi0 : ¬ i = 0 := fun e => hno ⟨e, .inl rfl⟩
                have hi1 : ¬ (i : Int) = 0 := by omega
                have hi2 : ((i : Int) == 0) = false := by simpa using hi0
                clear hno
                go_wp2_with fail
                have i0 := cell_regrown c0
                have i1 := cell_regrown c1
                have i2 := cell_regrown c2
                have i3 := cell_regrown c3
                have j0 := cell_regrown d0
                have j1 := cell_regrown d1
                have j2 := cell_regrown d2
                have j3 := cell_regrown d3
                have l0 := cell_regrown e0
                have l1 := cell_regrown e1
                have l2 := cell_regrown e2
                have l3 := cell_regrown e3
                have y0 := cell_regrown x0
                have y1 := cell_regrown x1
                have y2 := cell_regrown x2
                have y3 := cell_regrown x3
                have kR := HKR.out
                refine wp_region_quiet_below (by kernel_rfl) (by kernel_rfl) ?_
                repeat (quiet_step (with_reducible exact kR _ _))
                refine wpQuiet_nil ?_
                intro _ hw'
                obtain ⟨⟨dq, osq⟩, hw''⟩ := hw'
                subst hw''
                have HB3 := Lib.hid (HBw.out.trans ((below_regrown wr dq osq).mono HBw.out.size))
                clear i0 i1 i2 i3 j0 j1 j2 j3 l0 l1 l2 l3 y0 y1 y2 y3 c0 c1 c2 c3 d0 d1 d2 d3 e0 e1 e2 e3 x0 x1 x2 x3 kR HKR
                generalize Go.Sort.grow (redrawn wr dq) osq = w5 at *
                cases bi
                case true =>
                  have hrt : r = true := by rw [HR.out]; exact any_hit HBI.out HSK.out
                  have HRT := Lib.hid hrt
                  clear hrt HA HBI HSK
                  go_wp2
                  go_ret
                  exact ⟨by rw [HRT.out]; rfl, HB.out.trans (HB3.out.mono HB.out.size)⟩
                case false =>
                  have HA2 : Hid (∀ j, j < i + 1 → (skp 4 ∧ j = 0) ∨ (shws (Tm.mk kk kt kn kl) (Tm.mk gk gt gn gl) l)[j]? = some false) := fun j hj => by
                    by_cases e : j = i
                    · rw [e]; exact .inr HBI.out
                    · exact HA.out j (by omega)
                  clear HA HBI HSK
                  go_wp2
                  go_roundw
                  case rel => exact ⟨i + 1, by omega, by go_num, HA2, HB3⟩
                  case measure => simp [intOf] <;> omega
            · obtain rfl : i = 2 := by omega
              have hrf : r = false := by rw [HR.out]; exact any_none (fun j hj => HA.out j (by rw [HBL.out] at hj; exact hj))
              have HRF := Lib.hid hrf
              clear hrf HA d0 d1 d2 d3 e0 e1 e2 e3 hlt
              go_wp2
              go_ret
              exact ⟨by rw [HRF.out]; rfl, HB.out.trans (HBw.out.mono HB.out.size)⟩

        case false =>
          have hrf : r = false := by
            rw [HRR.out, shw_yes HNE.out ⟨rfl, by rw [← HM.out], by rw [HL.out]; exact of_decide_eq_true HB1E.out.symm, of_decide_eq_false HB2E.out.symm⟩]
          have HRF := Lib.hid hrf
          clear hrf HB1E HB2E HL
          go_wp2_with fail
          have i0 := cell_regrown c0
          have i1 := cell_regrown c1
          have i2 := cell_regrown c2
          have i3 := cell_regrown c3
          have j0 := cell_regrown d0
          have j1 := cell_regrown d1
          have j2 := cell_regrown d2
          have j3 := cell_regrown d3
          have l0 := cell_regrown e0
          have l1 := cell_regrown e1
          have l2 := cell_regrown e2
          have l3 := cell_regrown e3
          obtain ⟨k1, k2⟩ := HK12.out
          obtain ⟨q0, q1, q2, q3⟩ := HQ.out
          have r0 := cell_regrown q0
          have r1 := cell_regrown q1
          have r2 := cell_regrown q2
          have r3 := cell_regrown q3
          refine wp_region_quiet_below (by kernel_rfl) (by kernel_rfl) ?_
          repeat (quiet_step (first | with_reducible exact k1 _ _ | with_reducible exact k2 _ _))
          refine wpQuiet_nil ?_
          intro _ hw'
          obtain ⟨⟨dq, osq⟩, hw''⟩ := hw'
          subst hw''
          have HB2 := Lib.hid (HB1.out.trans ((below_regrown w1 dq osq).mono HB1.out.size))
          clear i0 i1 i2 i3 j0 j1 j2 j3 l0 l1 l2 l3 c0 c1 c2 c3 d0 d1 d2 d3 e0 e1 e2 e3 k1 k2 q0 q1 q2 q3 r0 r1 r2 r3 HK12 HQ
          generalize Go.Sort.grow (redrawn w1 dq) osq = w2 at *
          go_wp2
          go_ret
          exact ⟨by rw [HRF.out]; rfl, HB.out.trans (HB2.out.mono HB.out.size)⟩
    · have hm3 : ¬ ((m : Nat) : Int) = 2 := by omega
      have hm4 : (((m : Nat) : Int) == 2) = false := by simpa using hm3
      have HTF : Hid (¬ tpl (Tm.mk kk kt kn kl) (Tm.mk gk gt gn gl) 4 l) := fun h => hm2 (by rw [HM.out]; exact h.2.1)
      go_wp2_with fail
      have i0 := cell_regrown c0
      have i1 := cell_regrown c1
      have i2 := cell_regrown c2
      have i3 := cell_regrown c3
      have j0 := cell_regrown d0
      have j1 := cell_regrown d1
      have j2 := cell_regrown d2
      have j3 := cell_regrown d3
      have l0 := cell_regrown e0
      have l1 := cell_regrown e1
      have l2 := cell_regrown e2
      have l3 := cell_regrown e3
      refine wp_region_quiet_below (by kernel_rfl) (by kernel_rfl) ?_
      repeat (quiet_step (fail))
      refine wpQuiet_nil ?_
      intro _ hw'
      obtain ⟨⟨dq, osq⟩, hw''⟩ := hw'
      subst hw''
      have HB2 := Lib.hid (HB1.out.trans ((below_regrown w1 dq osq).mono HB1.out.size))
      clear i0 i1 i2 i3 j0 j1 j2 j3 l0 l1 l2 l3 c0 c1 c2 c3 d0 d1 d2 d3 e0 e1 e2 e3
      generalize Go.Sort.grow (redrawn w1 dq) osq = w2 at *
      have HR : Hid (r = (if skp 4 then (shws (Tm.mk kk kt kn kl) (Tm.mk gk gt gn gl) l).drop 1 else shws (Tm.mk kk kt kn kl) (Tm.mk gk gt gn gl) l).any id) := HRR.out.trans (shw_no HNE.out HTF.out)
      have HBL := Lib.hid (show (shws (Tm.mk kk kt kn kl) (Tm.mk gk gt gn gl) l).length = m by rw [shws_map, List.length_map, HM.out])
      have HII := Lib.hid (fun (x : Tm) (hx : x ∈ l) => HIH.out x hx)
      clear HRR HTF HNE HIH HBB
      obtain ⟨ce0, ce1, ce2⟩ := HCE.out w2 HB2.out
      clear ce0 ce1 ce2
      go_wp2_with fail
      go_loopw [7] (fun iv wr => ∃ i : Nat, i ≤ m ∧ iv = .int .i64 (i : Nat) ∧ Hid (∀ j, j < i → (skp 4 ∧ j = 0) ∨ (shws (Tm.mk kk kt kn kl) (Tm.mk gk gt gn gl) l)[j]? = some false) ∧ Hid (Below W.heap.size W wr)) (fun iv _ => m - (intOf iv).toNat)
      case atStart => exact ⟨0, by omega, rfl, Lib.hid (fun j hj => absurd hj (Nat.not_lt_zero j)), HB2⟩
      case round =>
        obtain ⟨i, hi, rfl, HA, HBw⟩ := hrel
        obtain ⟨ce0, ce1, ce2⟩ := HCE.out wr HBw.out
        obtain ⟨c0, c1, c2, c3⟩ := cell4 ce0
        obtain ⟨d0, d1, d2, d3⟩ := cell4 ce1
        obtain ⟨e0, e1, e2, e3⟩ := cell4 ce2
        clear ce0 ce1 ce2
        by_cases hlt : i < m
        · have hil : (i : Int) < (m : Int) := by omega
          by_cases hsk : skp 4 ∧ i = 0
          · have HA2 : Hid (∀ j, j < i + 1 → (skp 4 ∧ j = 0) ∨ (shws (Tm.mk kk kt kn kl) (Tm.mk gk gt gn gl) l)[j]? = some false) := fun j hj => .inl ⟨hsk.1, by omega⟩
            obtain ⟨h45, rfl⟩ := hsk
            clear HA d0 d1 d2 d3 e0 e1 e2 e3
            clear h45
            go_wp2
            go_roundw
            case rel => exact ⟨1, by omega, by go_num, HA2, HBw⟩
            case measure => simp [intOf] <;> omega
          · have hlt1 : i < l.length := by rw [← HM.out]; exact hlt
            have hSb := (HFA.out wr HBw.out).2.2.2.2
            obtain ⟨b, o, k', s', p', y, C, cy, hA, hSb', hx, x0, x1, x2, x3, hrep⟩ := trow_get (HFA.out wr HBw.out).2.2.2.1 (Below.refl wr.heap.size wr) hSb hlt1
            subst hA
            have hmem := List.getElem_mem hlt1
            have hbi : (shws (Tm.mk kk kt kn kl) (Tm.mk gk gt gn gl) l)[i]? = some (shw (Tm.mk kk kt kn kl) (Tm.mk gk gt gn gl) l[i]) := by rw [shws_map, List.getElem?_map, List.getElem?_eq_getElem hlt1]; rfl
            rw [hx] at hmem hbi
            have hszx : sz (.mk k' s' p' y) ≤ 262144 := by
              have h1 := szs_mem l _ hmem
              have h2 := HSZ.out
              rw [sz] at h2
              omega
            obtain ⟨bi, hbb⟩ : ∃ bi, bi = shw (Tm.mk kk kt kn kl) (Tm.mk gk gt gn gl) (.mk k' s' p' y) := ⟨_, rfl⟩
            rw [← hbb] at hbi
            have kR : ∀ d os, Calls Tryd.prog 25 #[.agg #[.int .i64 k', .string ⟨⟨s'⟩⟩, .int .i64 p', .slice C y.length cy], .agg #[.int .i64 kk, .string ⟨⟨kt⟩⟩, .int .i64 kn, .slice KA kl.length kc], .agg #[.int .i64 gk, .string ⟨⟨gt⟩⟩, .int .i64 gn, .slice GA gl.length gc]] (Go.Sort.grow (redrawn wr d) os) fun e w'' => e = .returned (.bool bi) ∧ ∃ p : Regrown, w'' = Go.Sort.grow (redrawn wr p.d) p.os := fun d os => by
              have hh := HFA.out _ (HBw.out.trans ((below_regrown wr d os).mono HBw.out.size))
              rw [hbb]
              exact Calls.regrown_of (HII.out _ hmem S _ _ _ _ hszx (rep_below hrep (below_regrown wr d os) hSb) hh.2.1 hh.2.2.1 hh.2.2.2.2)
            have HKR := Lib.hid kR
            have HBI := Lib.hid hbi
            have HSK := Lib.hid hsk
            have hno : ¬ (i = 0 ∧ skp 4) := fun h => hsk ⟨h.2, h.1⟩
            clear hx hrep hmem hbi hszx hbb kR hSb hSb' hsk
            have hi0 : ¬ i = 0 := fun e => hno ⟨e, .inl rfl⟩
            have hi1 : ¬ (i : Int) = 0 := by omega
            have hi2 : ((i : Int) == 0) = false := by simpa using hi0
            clear hno
            go_wp2_with fail
            have i0 := cell_regrown c0
            have i1 := cell_regrown c1
            have i2 := cell_regrown c2
            have i3 := cell_regrown c3
            have j0 := cell_regrown d0
            have j1 := cell_regrown d1
            have j2 := cell_regrown d2
            have j3 := cell_regrown d3
            have l0 := cell_regrown e0
            have l1 := cell_regrown e1
            have l2 := cell_regrown e2
            have l3 := cell_regrown e3
            have y0 := cell_regrown x0
            have y1 := cell_regrown x1
            have y2 := cell_regrown x2
            have y3 := cell_regrown x3
            have kR := HKR.out
            refine wp_region_quiet_below (by kernel_rfl) (by kernel_rfl) ?_
            repeat (quiet_step (with_reducible exact kR _ _))
            refine wpQuiet_nil ?_
            intro _ hw'
            obtain ⟨⟨dq, osq⟩, hw''⟩ := hw'
            subst hw''
            have HB3 := Lib.hid (HBw.out.trans ((below_regrown wr dq osq).mono HBw.out.size))
            clear i0 i1 i2 i3 j0 j1 j2 j3 l0 l1 l2 l3 y0 y1 y2 y3 c0 c1 c2 c3 d0 d1 d2 d3 e0 e1 e2 e3 x0 x1 x2 x3 kR HKR
            generalize Go.Sort.grow (redrawn wr dq) osq = w5 at *
            cases bi
            case true =>
              have hrt : r = true := by rw [HR.out]; exact any_hit HBI.out HSK.out
              have HRT := Lib.hid hrt
              clear hrt HA HBI HSK
              go_wp2
              go_ret
              exact ⟨by rw [HRT.out]; rfl, HB.out.trans (HB3.out.mono HB.out.size)⟩
            case false =>
              have HA2 : Hid (∀ j, j < i + 1 → (skp 4 ∧ j = 0) ∨ (shws (Tm.mk kk kt kn kl) (Tm.mk gk gt gn gl) l)[j]? = some false) := fun j hj => by
                by_cases e : j = i
                · rw [e]; exact .inr HBI.out
                · exact HA.out j (by omega)
              clear HA HBI HSK
              go_wp2
              go_roundw
              case rel => exact ⟨i + 1, by omega, by go_num, HA2, HB3⟩
              case measure => simp [intOf] <;> omega
        · obtain rfl : i = m := by omega
          have hil : ¬ (i : Int) < (i : Int) := by omega
          have hrf : r = false := by rw [HR.out]; exact any_none (fun j hj => HA.out j (by rw [HBL.out] at hj; exact hj))
          have HRF := Lib.hid hrf
          clear hrf HA d0 d1 d2 d3 e0 e1 e2 e3 hlt
          go_wp2
          go_ret
          exact ⟨by rw [HRF.out]; rfl, HB.out.trans (HBw.out.mono HB.out.size)⟩

  · have hk4' : (k == 4) = false := by simpa using hk4
    have HTF : Hid (¬ tpl (Tm.mk kk kt kn kl) (Tm.mk gk gt gn gl) k l) := fun h => hk4 h.1
    go_wp2_with fail
    have i0 := cell_regrown c0
    have i1 := cell_regrown c1
    have i2 := cell_regrown c2
    have i3 := cell_regrown c3
    have j0 := cell_regrown d0
    have j1 := cell_regrown d1
    have j2 := cell_regrown d2
    have j3 := cell_regrown d3
    have l0 := cell_regrown e0
    have l1 := cell_regrown e1
    have l2 := cell_regrown e2
    have l3 := cell_regrown e3
    refine wp_region_quiet_below (by kernel_rfl) (by kernel_rfl) ?_
    repeat (quiet_step (fail))
    refine wpQuiet_nil ?_
    intro _ hw'
    obtain ⟨⟨dq, osq⟩, hw''⟩ := hw'
    subst hw''
    have HB2 := Lib.hid (HB1.out.trans ((below_regrown w1 dq osq).mono HB1.out.size))
    clear i0 i1 i2 i3 j0 j1 j2 j3 l0 l1 l2 l3 c0 c1 c2 c3 d0 d1 d2 d3 e0 e1 e2 e3
    generalize Go.Sort.grow (redrawn w1 dq) osq = w2 at *
    have HR : Hid (r = (if skp k then (shws (Tm.mk kk kt kn kl) (Tm.mk gk gt gn gl) l).drop 1 else shws (Tm.mk kk kt kn kl) (Tm.mk gk gt gn gl) l).any id) := HRR.out.trans (shw_no HNE.out HTF.out)
    have HBL := Lib.hid (show (shws (Tm.mk kk kt kn kl) (Tm.mk gk gt gn gl) l).length = m by rw [shws_map, List.length_map, HM.out])
    have HII := Lib.hid (fun (x : Tm) (hx : x ∈ l) => HIH.out x hx)
    clear HRR HTF HNE HIH HBB
    obtain ⟨ce0, ce1, ce2⟩ := HCE.out w2 HB2.out
    clear ce0 ce1 ce2
    go_wp2_with fail
    go_loopw [7] (fun iv wr => ∃ i : Nat, i ≤ m ∧ iv = .int .i64 (i : Nat) ∧ Hid (∀ j, j < i → (skp k ∧ j = 0) ∨ (shws (Tm.mk kk kt kn kl) (Tm.mk gk gt gn gl) l)[j]? = some false) ∧ Hid (Below W.heap.size W wr)) (fun iv _ => m - (intOf iv).toNat)
    case atStart => exact ⟨0, by omega, rfl, Lib.hid (fun j hj => absurd hj (Nat.not_lt_zero j)), HB2⟩
    case round =>
      obtain ⟨i, hi, rfl, HA, HBw⟩ := hrel
      obtain ⟨ce0, ce1, ce2⟩ := HCE.out wr HBw.out
      obtain ⟨c0, c1, c2, c3⟩ := cell4 ce0
      obtain ⟨d0, d1, d2, d3⟩ := cell4 ce1
      obtain ⟨e0, e1, e2, e3⟩ := cell4 ce2
      clear ce0 ce1 ce2
      by_cases hlt : i < m
      · have hil : (i : Int) < (m : Int) := by omega
        by_cases hsk : skp k ∧ i = 0
        · have HA2 : Hid (∀ j, j < i + 1 → (skp k ∧ j = 0) ∨ (shws (Tm.mk kk kt kn kl) (Tm.mk gk gt gn gl) l)[j]? = some false) := fun j hj => .inl ⟨hsk.1, by omega⟩
          obtain ⟨h45, rfl⟩ := hsk
          clear HA d0 d1 d2 d3 e0 e1 e2 e3
          obtain rfl : k = 5 := h45.resolve_left hk4
          clear h45
          go_wp2
          go_roundw
          case rel => exact ⟨1, by omega, by go_num, HA2, HBw⟩
          case measure => simp [intOf] <;> omega
        · have hlt1 : i < l.length := by rw [← HM.out]; exact hlt
          have hSb := (HFA.out wr HBw.out).2.2.2.2
          obtain ⟨b, o, k', s', p', y, C, cy, hA, hSb', hx, x0, x1, x2, x3, hrep⟩ := trow_get (HFA.out wr HBw.out).2.2.2.1 (Below.refl wr.heap.size wr) hSb hlt1
          subst hA
          have hmem := List.getElem_mem hlt1
          have hbi : (shws (Tm.mk kk kt kn kl) (Tm.mk gk gt gn gl) l)[i]? = some (shw (Tm.mk kk kt kn kl) (Tm.mk gk gt gn gl) l[i]) := by rw [shws_map, List.getElem?_map, List.getElem?_eq_getElem hlt1]; rfl
          rw [hx] at hmem hbi
          have hszx : sz (.mk k' s' p' y) ≤ 262144 := by
            have h1 := szs_mem l _ hmem
            have h2 := HSZ.out
            rw [sz] at h2
            omega
          obtain ⟨bi, hbb⟩ : ∃ bi, bi = shw (Tm.mk kk kt kn kl) (Tm.mk gk gt gn gl) (.mk k' s' p' y) := ⟨_, rfl⟩
          rw [← hbb] at hbi
          have kR : ∀ d os, Calls Tryd.prog 25 #[.agg #[.int .i64 k', .string ⟨⟨s'⟩⟩, .int .i64 p', .slice C y.length cy], .agg #[.int .i64 kk, .string ⟨⟨kt⟩⟩, .int .i64 kn, .slice KA kl.length kc], .agg #[.int .i64 gk, .string ⟨⟨gt⟩⟩, .int .i64 gn, .slice GA gl.length gc]] (Go.Sort.grow (redrawn wr d) os) fun e w'' => e = .returned (.bool bi) ∧ ∃ p : Regrown, w'' = Go.Sort.grow (redrawn wr p.d) p.os := fun d os => by
            have hh := HFA.out _ (HBw.out.trans ((below_regrown wr d os).mono HBw.out.size))
            rw [hbb]
            exact Calls.regrown_of (HII.out _ hmem S _ _ _ _ hszx (rep_below hrep (below_regrown wr d os) hSb) hh.2.1 hh.2.2.1 hh.2.2.2.2)
          have HKR := Lib.hid kR
          have HBI := Lib.hid hbi
          have HSK := Lib.hid hsk
          have hno : ¬ (i = 0 ∧ skp k) := fun h => hsk ⟨h.2, h.1⟩
          clear hx hrep hmem hbi hszx hbb kR hSb hSb' hsk
          rcases (show (¬ i = 0) ∨ (i = 0 ∧ ¬ k = 5) by by_cases e : i = 0; exact .inr ⟨e, fun e5 => hno ⟨e, .inr e5⟩⟩; exact .inl e) with hi0 | ⟨hi0, hk5⟩
          · have hi1 : ¬ (i : Int) = 0 := by omega
            have hi2 : ((i : Int) == 0) = false := by simpa using hi0
            clear hno
            go_wp2_with fail
            have i0 := cell_regrown c0
            have i1 := cell_regrown c1
            have i2 := cell_regrown c2
            have i3 := cell_regrown c3
            have j0 := cell_regrown d0
            have j1 := cell_regrown d1
            have j2 := cell_regrown d2
            have j3 := cell_regrown d3
            have l0 := cell_regrown e0
            have l1 := cell_regrown e1
            have l2 := cell_regrown e2
            have l3 := cell_regrown e3
            have y0 := cell_regrown x0
            have y1 := cell_regrown x1
            have y2 := cell_regrown x2
            have y3 := cell_regrown x3
            have kR := HKR.out
            refine wp_region_quiet_below (by kernel_rfl) (by kernel_rfl) ?_
            repeat (quiet_step (with_reducible exact kR _ _))
            refine wpQuiet_nil ?_
            intro _ hw'
            obtain ⟨⟨dq, osq⟩, hw''⟩ := hw'
            subst hw''
            have HB3 := Lib.hid (HBw.out.trans ((below_regrown wr dq osq).mono HBw.out.size))
            clear i0 i1 i2 i3 j0 j1 j2 j3 l0 l1 l2 l3 y0 y1 y2 y3 c0 c1 c2 c3 d0 d1 d2 d3 e0 e1 e2 e3 x0 x1 x2 x3 kR HKR
            generalize Go.Sort.grow (redrawn wr dq) osq = w5 at *
            cases bi
            case true =>
              have hrt : r = true := by rw [HR.out]; exact any_hit HBI.out HSK.out
              have HRT := Lib.hid hrt
              clear hrt HA HBI HSK
              go_wp2
              go_ret
              exact ⟨by rw [HRT.out]; rfl, HB.out.trans (HB3.out.mono HB.out.size)⟩
            case false =>
              have HA2 : Hid (∀ j, j < i + 1 → (skp k ∧ j = 0) ∨ (shws (Tm.mk kk kt kn kl) (Tm.mk gk gt gn gl) l)[j]? = some false) := fun j hj => by
                by_cases e : j = i
                · rw [e]; exact .inr HBI.out
                · exact HA.out j (by omega)
              clear HA HBI HSK
              go_wp2
              go_roundw
              case rel => exact ⟨i + 1, by omega, by go_num, HA2, HB3⟩
              case measure => simp [intOf] <;> omega
          · subst hi0
            have hk5' : (k == 5) = false := by simpa using hk5
            simp only [Nat.zero_mul, Nat.add_zero] at x0 x1 x2 x3
            have HSK : Hid (¬ (skp k ∧ 0 = 0)) := fun h => hno ⟨rfl, h.1⟩
            clear hno
            go_wp2_with fail
            have i0 := cell_regrown c0
            have i1 := cell_regrown c1
            have i2 := cell_regrown c2
            have i3 := cell_regrown c3
            have j0 := cell_regrown d0
            have j1 := cell_regrown d1
            have j2 := cell_regrown d2
            have j3 := cell_regrown d3
            have l0 := cell_regrown e0
            have l1 := cell_regrown e1
            have l2 := cell_regrown e2
            have l3 := cell_regrown e3
            have y0 := cell_regrown x0
            have y1 := cell_regrown x1
            have y2 := cell_regrown x2
            have y3 := cell_regrown x3
            have kR := HKR.out
            refine wp_region_quiet_below (by kernel_rfl) (by kernel_rfl) ?_
            repeat (quiet_step (with_reducible exact kR _ _))
            refine wpQuiet_nil ?_
            intro _ hw'
            obtain ⟨⟨dq, osq⟩, hw''⟩ := hw'
            subst hw''
            have HB3 := Lib.hid (HBw.out.trans ((below_regrown wr dq osq).mono HBw.out.size))
            clear i0 i1 i2 i3 j0 j1 j2 j3 l0 l1 l2 l3 y0 y1 y2 y3 c0 c1 c2 c3 d0 d1 d2 d3 e0 e1 e2 e3 x0 x1 x2 x3 kR HKR
            generalize Go.Sort.grow (redrawn wr dq) osq = w5 at *
            cases bi
            case true =>
              have hrt : r = true := by rw [HR.out]; exact any_hit HBI.out (fun h => HSK.out ⟨h.1, trivial⟩)
              have HRT := Lib.hid hrt
              clear hrt HA HBI HSK
              go_wp2
              go_ret
              exact ⟨by rw [HRT.out]; rfl, HB.out.trans (HB3.out.mono HB.out.size)⟩
            case false =>
              have HA2 : Hid (∀ j, j < 0 + 1 → (skp k ∧ j = 0) ∨ (shws (Tm.mk kk kt kn kl) (Tm.mk gk gt gn gl) l)[j]? = some false) := fun j hj => by
                by_cases e : j = 0
                · rw [e]; exact .inr HBI.out
                · exact HA.out j (by omega)
              clear HA HBI HSK
              go_wp2
              go_roundw
              case rel => exact ⟨0 + 1, by omega, by go_num, HA2, HB3⟩
              case measure => simp [intOf] <;> omega
      · obtain rfl : i = m := by omega
        have hil : ¬ (i : Int) < (i : Int) := by omega
        have hrf : r = false := by rw [HR.out]; exact any_none (fun j hj => HA.out j (by rw [HBL.out] at hj; exact hj))
        have HRF := Lib.hid hrf
        clear hrf HA d0 d1 d2 d3 e0 e1 e2 e3 hlt
        go_wp2
        go_ret
        exact ⟨by rw [HRF.out]; rfl, HB.out.trans (HBw.out.mono HB.out.size)⟩

theorem shows_any (key guard : Tm) (hkz : sz key ≤ 262144) : ∀ x, ShowsSaid key guard x :=
  Tm.ind (fun k t n l ih => shows_of key guard hkz k t n l ih)
end Go.Proofs.YtiidooponlbnmaaDoor.Kn
