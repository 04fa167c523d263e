/- hear. (Laid with NS=1.) -/
import Derived.Test.YtiidooponlbnmaaDoorKnW5
namespace Go.Proofs.YtiidooponlbnmaaDoor.Kn
open Go.RowKit
open Te Te.Tt
open Go (Lit DataW MemPlace keyOf maxLen)

theorem trow_two {w : World} {S : Nat → Prop} {a b : Tm} {A : Option Addr} (h : TRowC w S [a, b] A) : ∃ g o x0 x1 x2 x3 y0 y1 y2 y3, A = some ⟨g, o, none⟩ ∧ S g ∧ w.cell? ⟨g, o, none⟩ = some x0 ∧ w.cell? ⟨g, o + 1, none⟩ = some x1 ∧ w.cell? ⟨g, o + 2, none⟩ = some x2 ∧ w.cell? ⟨g, o + 3, none⟩ = some x3 ∧ RepC w S a (.agg #[x0, x1, x2, x3]) ∧
    w.cell? ⟨g, o + 4, none⟩ = some y0 ∧ w.cell? ⟨g, o + 5, none⟩ = some y1 ∧ w.cell? ⟨g, o + 6, none⟩ = some y2 ∧ w.cell? ⟨g, o + 7, none⟩ = some y3 ∧ RepC w S b (.agg #[y0, y1, y2, y3]) := by
  rcases h with h | ⟨g, o, rfl, hg, h⟩
  · cases h
  · rw [RepsC, RepsC] at h
    obtain ⟨⟨x0, x1, x2, x3, h0, h1, h2, h3, ha⟩, ⟨y0, y1, y2, y3, k0, k1, k2, k3, hb⟩, -⟩ := h
    exact ⟨g, o, x0, x1, x2, x3, y0, y1, y2, y3, rfl, hg, h0, h1, h2, h3, ha, k0, k1, k2, k3, hb⟩

/-- What a term that is heard leaves. -/
def HearPost (w : World) (F : Nat → Prop) (g bk bw : Nat) (T : Nat → Prop) (r : St × List Tm) (e : Ending) (w' : World) : Prop :=
  ∃ A ca f' F', e = .returned (.slice A r.2.length ca) ∧ QRow w' T r.2 A ∧ Turn (FT F T) w w' ∧ SR w' F' g bk bw T f' r.1 ∧ (∀ i, F i → F' i) ∧ ∀ i, F' i → F i ∨ w.heap.size ≤ i

set_option maxHeartbeats 4000000 in
set_option maxRecDepth 100000 in
theorem hear_any (B : Nat) (w : World) (F : Nat → Prop) (g bk bw : Nat) (T : Nat → Prop) (f : Tm → Value) (s : St) (h : SR w F g bk bw T f s) (hB : B ≤ w.heap.size) (hFB : ∀ i, F i → B ≤ i) (htab : TabB B w) (x : Tm) (hx : vld 0 x = true) (hsz : sz x ≤ 262144) (hkn : s.kn.length ≤ 10000000) (hlen : s.wt.length ≤ 900000) (v : Value) (hrep : RepC w T x v) :
    Calls Tryd.prog 35 #[.pointer (some ⟨g, 0, none⟩), v] w (HearPost w F g bk bw T (Kn.hr s x)) := by
  have hml := mk_le w T x 0 v hx hrep.rep
  have hTl : ∀ i, T i → i < w.heap.size := fun i hi => h.lt i (h.tF i hi).1
  obtain ⟨r, hrr⟩ : ∃ r, r = Kn.hr s x := ⟨_, rfl⟩
  rw [← hrr]
  obtain ⟨b, hb⟩ : ∃ b, b = decide (x ∈ s.kn) := ⟨_, rfl⟩
  obtain ⟨m, hm⟩ : ∃ m, m = mk x := ⟨_, rfl⟩
  obtain ⟨z, hz⟩ : ∃ z, z = w.heap.size := ⟨_, rfl⟩
  have HRR := Lib.hid hrr
  have HBK := Lib.hid hb
  have HM := Lib.hid hm
  have HZ := Lib.hid hz
  obtain ⟨k, t, n, l⟩ := x
  have hr0 := hrep
  obtain ⟨A, ca, rfl, ⟨hn, hca⟩, hrow⟩ := repc_mk.1 hrep
  have hb1 : Below w.heap.size w (w.alloc (.cells #[.int .i64 k, .string ⟨⟨t⟩⟩, .int .i64 n, .slice A l.length ca] 33)) := (Below.refl _ _).alloc (Nat.le_refl _) _
  have hg1 := heap_alloc_new w (.cells #[.int .i64 k, .string ⟨⟨t⟩⟩, .int .i64 n, .slice A l.length ca] 33)
  rw [← hz] at hg1
  have HSR : Hid (∀ W, Below w.heap.size w W → SR W F g bk bw T f s) := fun W hW => h.below hW
  have HRT : Hid (∀ W, Below w.heap.size w W → RepC W T (.mk k t n l) (.agg #[.int .i64 k, .string ⟨⟨t⟩⟩, .int .i64 n, .slice A l.length ca])) := fun W hW => repc_below hr0 hW hTl
  have HTB : Hid (∀ W, Below w.heap.size w W → TabB W.heap.size W) := fun W hW => TabB.up (fun w' h' => htab w' (h'.mono hB)) hW
  have HTAB := Lib.hid htab
  have HTL := Lib.hid hTl
  have HX := Lib.hid hx
  have HKN := Lib.hid hkn
  have HLEN := Lib.hid hlen
  have HFB := Lib.hid hFB
  have HBB := Lib.hid hB
  have HB1 := Lib.hid hb1
  have HG1 := Lib.hid hg1
  have HML : Hid ((mk (.mk k t n l)).length ≤ 1000000000000) := by rw [Hid]; omega
  have HSZ := Lib.hid hsz
  have HCA := Lib.hid hca
  have HC := Lib.hid (mark_any (.mk k t n l) 0 T _ _ hx (by omega) (HRT.out _ hb1).rep (fun i hi => Nat.lt_of_lt_of_le (hTl i hi) hb1.size) (HTB.out _ hb1))
  rw [← hm] at HC
  clear h hB hFB htab hx hsz hkn hlen hrep hr0 hml hTl hrr hb hm hz hb1 hg1 hrow hca
  go_enter Tryd.func35, Tryd.ntmps35
  go_wp2_with fail
  rw [← HZ.out]
  refine HC.out.mono ?_
  rintro _ w2 ⟨rfl, hb2⟩
  have HZ2 := Lib.hid ((hb2.block z (Array.getElem?_eq_some_iff.1 HG1.out).1).trans HG1.out)
  have HB2 := Lib.hid (HB1.out.trans (hb2.mono HB1.out.size))
  have hC2 := has_any w2 F g bk bw T f s (HSR.out w2 HB2.out) (.mk k t n l) HX.out HML.out
  rw [← HBK.out, ← HM.out] at hC2
  have HC2 := Lib.hid hC2
  clear hb2 HC hC2 HG1 HB1
  go_wp2_with fail
  refine HC2.out.mono ?_
  rintro _ w3 ⟨rfl, hb3⟩
  have HZ3 := Lib.hid ((hb3.block z (Array.getElem?_eq_some_iff.1 HZ2.out).1).trans HZ2.out)
  have HB3 := Lib.hid (HB2.out.trans (hb3.mono HB2.out.size))
  clear hb3 HC2 HZ2 HB2
  cases b
  case true =>
    go_wp2
    go_ret
    have e : r = (s, []) := by rw [HRR.out, Kn.hr, if_pos (of_decide_eq_true HBK.out.symm)]
    rw [e]
    exact ⟨none, 0, f, F, rfl, .inl rfl, Turn.of_below HB3.out, HSR.out w3 HB3.out, fun _ h => h, fun _ h => .inl h⟩
  case false =>
    have hne : .mk k t n l ∉ s.kn := of_decide_eq_false HBK.out.symm
    have hrn : r = nw s (.mk k t n l) := by rw [HRR.out, Kn.hr, if_neg hne]
    have HNE := Lib.hid hne
    have HRN := Lib.hid hrn
    clear hne hrn HRR HBK
    -- REGION
    have HHK := Lib.hid (hkey m (by have := HML.out; rw [← HM.out] at this; exact this))
    obtain ⟨W3, hW3⟩ : ∃ W3, W3 = w3.drew := ⟨_, rfl⟩
    have hb3 : Below w.heap.size w W3 := by rw [hW3]; exact HB3.out.drew
    have HB3' := Lib.hid hb3
    have HZ3' : Hid (W3.heap[z]? = some (.cells #[.int .i64 k, .string ⟨⟨t⟩⟩, .int .i64 n, .slice A l.length ca] 33 (0, 0))) := by rw [Hid, hW3]; exact HZ3.out
    have HSR3 := Lib.hid (HSR.out W3 hb3)
    obtain ⟨D, hkm⟩ := HSR3.out.km
    have HKM := Lib.hid hkm
    have HR3 := Lib.hid (HRT.out W3 hb3)
    have HST3 : Hid (w3.drew.heap[g]? = some (.cells #[.map (some bk), .map (some bw)] 55 (0, 0))) := (HSR.out w3 HB3.out).st
    have HZK : Hid (z ≠ bk) := by have h1 := (HSR3.out.lt bk HSR3.out.gF.2.1); have h2 := HZ.out; have h3 := (HSR.out w (Below.refl _ _)).km.lt; rw [Hid]; omega
    have HW3 := Lib.hid hW3
    clear hW3 hb3 hkm
    go_wp2_with fail
    refine wp_region_inv (by kernel_rfl) (fun L act W => ∃ t11 t12 t13 t14 t15 t16, act = { tmps := #[.pointer (some ⟨g, 0, none⟩), .agg #[.int .i64 k, .string ⟨⟨t⟩⟩, .int .i64 n, .slice A l.length ca], undef, .pointer (some ⟨z, 0, none⟩), .slice none 0 0, .string ⟨⟨m⟩⟩, .agg #[.int .i64 k, .string ⟨⟨t⟩⟩, .int .i64 n, .slice A l.length ca], .string ⟨⟨m⟩⟩, .pointer (some ⟨g, 0, none⟩), .string ⟨⟨m⟩⟩, .bool false, t11, t12, t13, t14, t15, t16, undef, undef, undef, undef, undef, undef, undef, undef, undef, undef, undef, undef, undef, undef, undef, undef, undef, undef, undef, undef, undef, undef, undef, undef, undef, undef, undef, undef, undef], defers := [] } ∧ (L 0 = true → (.pointer (some ⟨g, 0, none⟩) : Value) = t11) ∧ (L 1 = true → (.pointer (some ⟨g, 0, none⟩) : Value) = t12) ∧ (L 2 = true → (.pointer (some ⟨g, 0, none⟩) : Value) = t13) ∧ (L 3 = true → (.map (some bk) : Value) = t14) ∧ (L 4 = true → (.string ⟨⟨m⟩⟩ : Value) = t15) ∧ (L 5 = true → (.agg #[.int .i64 k, .string ⟨⟨t⟩⟩, .int .i64 n, .slice A l.length ca] : Value) = t16) ∧ (L 6 = false → W = W3) ∧ (W.heap[g]? = some (.cells #[.map (some bk), .map (some bw)] 55 (0, 0))) ∧ (W.heap[z]? = some (.cells #[.int .i64 k, .string ⟨⟨t⟩⟩, .int .i64 n, .slice A l.length ca] 33 (0, 0))) ∧ (L 6 = true → W3.mapTurned W bk ∧ SR W F g bk bw T f ⟨(.mk k t n l) :: s.kn, s.wt⟩)) (by kernel_rfl) ?_ ?_ ?_
    · exact ⟨_, _, _, _, _, _, rfl, nofun, nofun, nofun, nofun, nofun, nofun, fun _ => HW3.out.symm, HST3.out, HZ3.out, nofun⟩
    · rintro L _ W i oo ⟨t11, t12, t13, t14, t15, t16, rfl, f0, f1, f2, f3, f4, f5, qa, qg, qz, g6⟩ ho hL hd
      rcases i with _ | _ | _ | _ | _ | _ | _ | i
      · obtain rfl := Option.some.inj ho
        refine wpOp_step rfl fun K hK => ?_
        have F0X := Lib.hid f0
        have F1X := Lib.hid f1
        have F2X := Lib.hid f2
        have F3X := Lib.hid f3
        have F4X := Lib.hid f4
        have F5X := Lib.hid f5
        have QAX := Lib.hid qa
        have QGX := Lib.hid qg
        have QZX := Lib.hid qz
        have G6X := Lib.hid g6
        clear f0 f1 f2 f3 f4 f5 qa qg qz g6 hd ho hL
        go_simp
        refine hK _ _ ?_
        exact ⟨_, _, _, _, _, _, rfl, fun _ => rfl, F1X.out, F2X.out, F3X.out, F4X.out, F5X.out, QAX.out, QGX.out, QZX.out, G6X.out⟩
      · obtain rfl := Option.some.inj ho
        have l0 := hd ⟨0, .data⟩ (by simp) rfl
        obtain rfl := f0 l0
        obtain ⟨x0, x1⟩ := cellG qg
        refine wpOp_step rfl fun K hK => ?_
        have F0X := Lib.hid f0
        have F1X := Lib.hid f1
        have F2X := Lib.hid f2
        have F3X := Lib.hid f3
        have F4X := Lib.hid f4
        have F5X := Lib.hid f5
        have QAX := Lib.hid qa
        have QGX := Lib.hid qg
        have QZX := Lib.hid qz
        have G6X := Lib.hid g6
        clear f0 f1 f2 f3 f4 f5 qa qg qz g6 hd ho hL l0
        go_simp
        refine hK _ _ ?_
        exact ⟨_, _, _, _, _, _, rfl, F0X.out, fun _ => rfl, F2X.out, F3X.out, F4X.out, F5X.out, QAX.out, QGX.out, QZX.out, G6X.out⟩
      · obtain rfl := Option.some.inj ho
        have l1 := hd ⟨1, .data⟩ (by simp) rfl
        obtain rfl := f1 l1
        refine wpOp_step rfl fun K hK => ?_
        have F0X := Lib.hid f0
        have F1X := Lib.hid f1
        have F2X := Lib.hid f2
        have F3X := Lib.hid f3
        have F4X := Lib.hid f4
        have F5X := Lib.hid f5
        have QAX := Lib.hid qa
        have QGX := Lib.hid qg
        have QZX := Lib.hid qz
        have G6X := Lib.hid g6
        clear f0 f1 f2 f3 f4 f5 qa qg qz g6 hd ho hL l1
        go_simp
        refine hK _ _ ?_
        exact ⟨_, _, _, _, _, _, rfl, F0X.out, F1X.out, fun _ => rfl, F3X.out, F4X.out, F5X.out, QAX.out, QGX.out, QZX.out, G6X.out⟩
      · obtain rfl := Option.some.inj ho
        have l2 := hd ⟨2, .data⟩ (by simp) rfl
        obtain rfl := f2 l2
        obtain ⟨x0, x1⟩ := cellG qg
        refine wpOp_step rfl fun K hK => ?_
        have F0X := Lib.hid f0
        have F1X := Lib.hid f1
        have F2X := Lib.hid f2
        have F3X := Lib.hid f3
        have F4X := Lib.hid f4
        have F5X := Lib.hid f5
        have QAX := Lib.hid qa
        have QGX := Lib.hid qg
        have QZX := Lib.hid qz
        have G6X := Lib.hid g6
        clear f0 f1 f2 f3 f4 f5 qa qg qz g6 hd ho hL l2
        go_simp
        refine hK _ _ ?_
        exact ⟨_, _, _, _, _, _, rfl, F0X.out, F1X.out, F2X.out, fun _ => rfl, F4X.out, F5X.out, QAX.out, QGX.out, QZX.out, G6X.out⟩
      · obtain rfl := Option.some.inj ho
        refine wpOp_step rfl fun K hK => ?_
        have F0X := Lib.hid f0
        have F1X := Lib.hid f1
        have F2X := Lib.hid f2
        have F3X := Lib.hid f3
        have F4X := Lib.hid f4
        have F5X := Lib.hid f5
        have QAX := Lib.hid qa
        have QGX := Lib.hid qg
        have QZX := Lib.hid qz
        have G6X := Lib.hid g6
        clear f0 f1 f2 f3 f4 f5 qa qg qz g6 hd ho hL
        go_simp
        refine hK _ _ ?_
        exact ⟨_, _, _, _, _, _, rfl, F0X.out, F1X.out, F2X.out, F3X.out, fun _ => rfl, F5X.out, QAX.out, QGX.out, QZX.out, G6X.out⟩
      · obtain rfl := Option.some.inj ho
        obtain ⟨x0, x1, x2, x3⟩ := cell4 qz
        refine wpOp_step rfl fun K hK => ?_
        have F0X := Lib.hid f0
        have F1X := Lib.hid f1
        have F2X := Lib.hid f2
        have F3X := Lib.hid f3
        have F4X := Lib.hid f4
        have F5X := Lib.hid f5
        have QAX := Lib.hid qa
        have QGX := Lib.hid qg
        have QZX := Lib.hid qz
        have G6X := Lib.hid g6
        clear f0 f1 f2 f3 f4 f5 qa qg qz g6 hd ho hL
        go_simp
        refine hK _ _ ?_
        exact ⟨_, _, _, _, _, _, rfl, F0X.out, F1X.out, F2X.out, F3X.out, F4X.out, fun _ => rfl, QAX.out, QGX.out, QZX.out, G6X.out⟩
      · obtain rfl := Option.some.inj ho
        have l3 := hd ⟨3, .data⟩ (by simp) rfl
        have l4 := hd ⟨4, .data⟩ (by simp) rfl
        have l5 := hd ⟨5, .data⟩ (by simp) rfl
        obtain rfl := f3 l3
        obtain rfl := f4 l4
        obtain rfl := f5 l5
        obtain rfl := qa hL
        obtain ⟨w4, hrun, ho4, ht4⟩ := HKM.out.1.store law Tryd.underlying52 (by have := HKN.out; unfold maxLen; omega) HHK.out (tok_mk (.agg #[.int .i64 k, .string ⟨⟨t⟩⟩, .int .i64 n, .slice A l.length ca]))
        have hs4 : SR w4 F g bk bw T f ⟨(.mk k t n l) :: s.kn, s.wt⟩ := by
            rw [HM.out] at ho4
            exact HSR3.out.known HKM.out ho4 ht4 HX.out HNE.out HR3.out
        have HT4 := Lib.hid ht4
        have HS4 := Lib.hid hs4
        clear ho4 ht4 hs4
        refine wpOp_step rfl fun K hK => ?_
        refine op_update_run _ rfl (.tmp 14) (.tmp 15) (.tmp 16) 52 rfl _ _ _ rfl rfl rfl hrun ?_
        have F0X := Lib.hid f0
        have F1X := Lib.hid f1
        have F2X := Lib.hid f2
        have F3X := Lib.hid f3
        have F4X := Lib.hid f4
        have F5X := Lib.hid f5
        have QAX := Lib.hid qa
        have QGX := Lib.hid qg
        have QZX := Lib.hid qz
        have G6X := Lib.hid g6
        clear f0 f1 f2 f3 f4 f5 qa qg qz g6 hd ho hL l3 l4 l5
        refine hK _ _ ?_
        exact ⟨_, _, _, _, _, _, rfl, F0X.out, F1X.out, F2X.out, F3X.out, F4X.out, F5X.out, nofun, HS4.out.st, (turned_block HT4.out (Array.getElem?_eq_some_iff.1 QZX.out).1 HZK.out).trans QZX.out, fun _ => ⟨HT4.out, HS4.out⟩⟩
      · simp at ho
    · rintro L _ W ⟨t11, t12, t13, t14, t15, t16, rfl, f0, f1, f2, f3, f4, f5, qa, qg, qz, g6⟩ hall
      obtain rfl := f0 (hall 0 (by decide))
      obtain rfl := f1 (hall 1 (by decide))
      obtain rfl := f2 (hall 2 (by decide))
      obtain rfl := f3 (hall 3 (by decide))
      obtain rfl := f4 (hall 4 (by decide))
      obtain rfl := f5 (hall 5 (by decide))
      obtain ⟨ht4, hs4⟩ := g6 (hall 6 (by decide))
      have HZ4 := Lib.hid qz
      have HT4 := Lib.hid ht4
      have HS4 := Lib.hid hs4
      have HTU : Hid (Turn (FT F T) w W) := (Turn.of_below HB3'.out).trans (Turn.of_grown (F := FT F T) ht4.grown (fun i e => by injection e with e; subst e; exact ⟨hs4.gF.2.1, fun h => (hs4.tF _ h).2.2.1 rfl⟩)) (fun i hi => .inl hi)
      have HR4 : Hid (RepC W T (.mk k t n l) (.agg #[.int .i64 k, .string ⟨⟨t⟩⟩, .int .i64 n, .slice A l.length ca])) := repc_keep (fun _ h => h) (fun c o hc => World.cell?_of_block (a := ⟨c, o, none⟩) (turned_block ht4 (HSR3.out.lt c (HSR3.out.tF c hc).1) (HSR3.out.tF c hc).2.2.1)) _ _ HR3.out
      clear qa qg qz g6 ht4 hs4 hall HZ3 HZ3' HSR3 HKM HR3 HST3 HW3
      have hmis := (vld_own HX.out).1
      obtain ⟨c0, c1, c2, c3⟩ := cell4 HZ4.out
      by_cases h2 : k = 2
      · subst h2
        have HW2 := Lib.hid (waited_any W F g bk bw T f _ HS4.out (.mk 2 t n l) HX.out HML.out)
        rw [← HM.out] at HW2
        obtain ⟨A1, a1, hf1⟩ := (HS4.out.own _ HX.out).form
        rw [hf1] at HW2
        have HF1 := Lib.hid hf1
        clear hmis hf1
        go_wp2_with fail
        refine HW2.out.mono ?_
        rintro _ w5 ⟨rfl, hs5, ht5⟩
        have HS5 := Lib.hid hs5
        have HT5 := Lib.hid ht5
        clear hs5 ht5 HW2
        go_wp2
        go_ret
        have er : r = (⟨.mk 2 t n l :: s.kn, s.wt.filter fun p => !decide (p.1 = .mk 2 t n l)⟩, s.of (.mk 2 t n l)) := by rw [HRN.out, nw, if_pos rfl]
        rw [er]
        have hown := (HS4.out.own _ HX.out).keep (S' := T) (w' := w5) (fun i hi => turned_block HT5.out (HS4.out.lt i (HS4.out.fF _ HX.out i hi).1) (HS4.out.fF _ HX.out i hi).2.2.2.2) (fun _ h => h) (fun i hi => turned_block HT5.out (HS4.out.lt i (HS4.out.tF i hi).1) (HS4.out.tF i hi).2.2.2)
        rw [HF1.out] at hown
        exact ⟨A1, a1, _, F, rfl, (QRow.of_own hown).2, HTU.out.trans (Turn.of_grown (F := FT F T) HT5.out.grown (fun i e => by injection e with e; subst e; exact ⟨HS4.out.gF.2.2, fun h => (HS4.out.tF _ h).2.2.2 rfl⟩)) (fun i hi => .inl hi), HS5.out, fun _ h => h, fun _ h => .inl h⟩
      by_cases h3 : k = 3
      · subst h3
        clear hmis h2
        go_wp2
        go_ret
        have er : r = (⟨.mk 3 t n l :: s.kn, s.wt⟩, l) := by rw [HRN.out, nw, if_neg (by decide), if_pos rfl]
        rw [er]
        obtain ⟨A', ca', hv', -, hrow'⟩ := repc_mk.1 HR4.out
        injection hv' with hv'
        simp at hv'
        obtain ⟨rfl, rfl⟩ := hv'
        exact ⟨A, ca, f, F, rfl, QRow.of_trow hrow', HTU.out, HS4.out, fun _ h => h, fun _ h => .inl h⟩
      by_cases h4 : k = 4
      · subst h4
        obtain ⟨a, b, rfl, hak, -, -⟩ := mis_key hmis (.inl rfl)
        obtain ⟨A', ca', hv', -, hrow'⟩ := repc_mk.1 HR4.out
        injection hv' with hv'
        simp at hv'
        obtain ⟨rfl, rfl⟩ := hv'
        obtain ⟨gb, go, x0, x1, x2, x3, y0, y1, y2, y3, rfl, hgb, j0, j1, j2, j3, hra, k0, k1, k2, k3, hrb⟩ := trow_two hrow'
        have hva := vld_sub0 HX.out (y := a) (by simp)
        have hvb := vld_sub0 HX.out (y := b) (by simp)
        have hsab : sz a ≤ 262144 ∧ sz b ≤ 262144 := by have := HSZ.out; simp only [sz, Te.Tt.szs] at this; omega
        have hTW : ∀ i, T i → i < W.heap.size := fun i hi => HS4.out.lt i (HS4.out.tF i hi).1
        have hla : (mk a).length ≤ 1000000000000 := by have := mk_le W T a 0 _ hva hra.rep; omega
        have HCL : Hid (∀ W', Below W.heap.size W W' → W'.cell? ⟨gb, go, none⟩ = some x0 ∧ W'.cell? ⟨gb, go + 1, none⟩ = some x1 ∧ W'.cell? ⟨gb, go + 2, none⟩ = some x2 ∧ W'.cell? ⟨gb, go + 3, none⟩ = some x3 ∧ W'.cell? ⟨gb, go + 4, none⟩ = some y0 ∧ W'.cell? ⟨gb, go + 4 + 1, none⟩ = some y1 ∧ W'.cell? ⟨gb, go + 4 + 2, none⟩ = some y2 ∧ W'.cell? ⟨gb, go + 4 + 3, none⟩ = some y3) := fun W' hW' =>
          have hg := hTW gb hgb
          ⟨(hW'.cell (p := ⟨gb, go, none⟩) hg).trans j0, (hW'.cell (p := ⟨gb, go + 1, none⟩) hg).trans j1, (hW'.cell (p := ⟨gb, go + 2, none⟩) hg).trans j2, (hW'.cell (p := ⟨gb, go + 3, none⟩) hg).trans j3, (hW'.cell (p := ⟨gb, go + 4, none⟩) hg).trans k0, (hW'.cell (p := ⟨gb, go + 5, none⟩) hg).trans k1, (hW'.cell (p := ⟨gb, go + 6, none⟩) hg).trans k2, (hW'.cell (p := ⟨gb, go + 7, none⟩) hg).trans k3⟩
        have hbel : ∀ W', Below W.heap.size W W' → Below B w W' := fun W' hW' => (HTU.out.below HBB.out (fun i hi => HFB.out i hi.1)).trans (hW'.mono (Nat.le_trans HBB.out HTU.out.size))
        have HMK : Hid (∀ W', Below W.heap.size W W' → Calls Tryd.prog 40 #[.agg #[x0, x1, x2, x3]] W' fun e w' => e = .returned (.string ⟨⟨mk a⟩⟩) ∧ Below W'.heap.size W' w') := fun W' hW' =>
          mark_any a 0 T _ W' hva (by omega) (repc_below hra hW' hTW).rep (fun i hi => Nat.lt_of_lt_of_le (hTW i hi) hW'.size) (fun w'' hw'' => HTAB.out w'' ((hbel W' hW').trans (hw''.mono (Nat.le_trans HBB.out (Nat.le_trans HTU.out.size hW'.size)))))
        have HOP : Hid (∀ W', Below W.heap.size W W' → Calls Tryd.prog 50 #[.pointer (some ⟨g, 0, none⟩), .string ⟨⟨mk a⟩⟩, .agg #[y0, y1, y2, y3]] W' (HearPost w F g bk bw T r)) := fun W' hW' => by
          have hs' := HS4.out.below hW'
          by_cases ha : a ∈ s.kn
          · have er : r = (⟨.mk 4 t n [a, b] :: s.kn, s.wt⟩, [b]) := by rw [HRN.out, nw, if_neg (by decide), if_neg (by decide), if_pos rfl, if_pos (show hd1 [a, b] ∈ s.kn from ha)]; rfl
            rw [er]
            refine (openedK_any W' F g bk bw T f _ hs' a b hva hla (List.mem_cons_of_mem _ ha) _ (repc_below hrb hW' hTW)).mono ?_
            rintro _ w' ⟨bb, rfl, hq, hb⟩
            exact ⟨_, 1, f, F, rfl, hq, HTU.out.trans (Turn.of_below (F := FT F T) (hW'.trans (hb.mono hW'.size))) (fun i hi => .inl hi), hs'.below hb, fun _ h => h, fun _ h => .inl h⟩
          · have er : r = (⟨.mk 4 t n [a, b] :: s.kn, s.wt ++ [(a, b)]⟩, []) := by rw [HRN.out, nw, if_neg (by decide), if_neg (by decide), if_pos rfl, if_neg (show hd1 [a, b] ∉ s.kn from ha)]; rfl
            rw [er]
            obtain ⟨D2, e1, e2, e3⟩ := (HSR.out w (Below.refl _ _)).wm
            have hbwl := (HSR.out w (Below.refl _ _)).lt bw (HSR.out w (Below.refl _ _)).gF.2.2
            have hbw : W'.heap[bw]? = w.heap[bw]? := (hW'.block bw (HS4.out.lt bw HS4.out.gF.2.2)).trans ((turned_block HT4.out (Nat.lt_of_lt_of_le hbwl HB3'.out.size) (Ne.symm HS4.out.ne.1)).trans (HB3'.out.block bw hbwl))
            refine (openedN_any W' F g bk bw T f _ hs' a b hva hla (fun hm => (List.mem_cons.1 hm).elim (fun e => by rw [e] at hak; cases hak) ha) s.kn (by have := HKN.out; simp only [List.length_cons]; omega) ⟨D2, own_keep e1 hbw, by simp only [List.length_cons]; omega, e3⟩ (by have := HLEN.out; simp only [St.of, List.length_map]; exact Nat.le_trans (List.length_filter_le _ _) this) _ (repc_below hrb hW' hTW)).mono ?_
            rintro _ w' ⟨rfl, ht, f', hs2⟩
            exact ⟨none, 0, f', _, rfl, .inl rfl, (HTU.out.trans (Turn.of_below (F := FT F T) hW') (fun i hi => .inl hi)).trans ht (fun i hi => .inl hi), hs2, fun i hi => .inl hi, fun i hi => hi.imp id (fun h => Nat.le_trans (Nat.le_trans HTU.out.size hW'.size) h.1)⟩
        obtain ⟨ma, hma⟩ : ∃ ma, ma = mk a := ⟨_, rfl⟩
        rw [← hma] at HMK HOP
        obtain ⟨W4, hW4⟩ : ∃ W4, W4 = W := ⟨_, rfl⟩
        rw [← hW4] at HMK HOP HCL
        have HWW := Lib.hid hW4
        clear hma hW4 hmis h2 h3 j0 j1 j2 j3 k0 k1 k2 k3 hra hrb hrow' hak hva hvb hsab hTW hla hbel HSR HRT HTB
        go_wp2_with fail
        have HRB : Hid (Below W4.heap.size W4 W.drew) := by rw [Hid, HWW.out]; exact (Below.refl _ _).drew
        have HZ5 : Hid (W.drew.heap[z]? = some (.cells #[.int .i64 4, .string ⟨⟨t⟩⟩, .int .i64 n, .slice (some ⟨gb, go, none⟩) 2 ca] 33 (0, 0))) := HZ4.out
        refine wp_region_inv (by kernel_rfl) (fun L act W => ∃ t30 t31 t32 t33 t34 t35 t36 t37 t38 t39 t40 t4, act = { tmps := #[.pointer (some ⟨g, 0, none⟩), .agg #[.int .i64 4, .string ⟨⟨t⟩⟩, .int .i64 n, .slice (some ⟨gb, go, none⟩) 2 ca], undef, .pointer (some ⟨z, 0, none⟩), t4, .string ⟨⟨m⟩⟩, .agg #[.int .i64 4, .string ⟨⟨t⟩⟩, .int .i64 n, .slice (some ⟨gb, go, none⟩) 2 ca], .string ⟨⟨m⟩⟩, .pointer (some ⟨g, 0, none⟩), .string ⟨⟨m⟩⟩, .bool false, .pointer (some ⟨g, 0, none⟩), .pointer (some ⟨g, 0, none⟩), .pointer (some ⟨g, 0, none⟩), .map (some bk), .string ⟨⟨m⟩⟩, .agg #[.int .i64 4, .string ⟨⟨t⟩⟩, .int .i64 n, .slice (some ⟨gb, go, none⟩) 2 ca], .pointer (some ⟨z, 0, none⟩), .int .i64 4, .bool false, .bool false, undef, undef, undef, .bool false, .bool false, undef, undef, .bool true, .bool true, t30, t31, t32, t33, t34, t35, t36, t37, t38, t39, t40, undef, undef, undef, undef, undef], defers := [] } ∧ (L 0 = true → (.pointer (some ⟨g, 0, none⟩) : Value) = t30) ∧ (L 1 = true → (.pointer (some ⟨z, 3, none⟩) : Value) = t31) ∧ (L 2 = true → (.slice (some ⟨gb, go, none⟩) 2 ca : Value) = t32) ∧ (L 3 = true → (.pointer (some ⟨gb, go, none⟩) : Value) = t33) ∧ (L 4 = true → (.agg #[x0, x1, x2, x3] : Value) = t34) ∧ (L 5 = true → (.string ⟨⟨ma⟩⟩ : Value) = t35) ∧ (L 6 = true → (.pointer (some ⟨z, 3, none⟩) : Value) = t36) ∧ (L 7 = true → (.slice (some ⟨gb, go, none⟩) 2 ca : Value) = t37) ∧ (L 8 = true → (.pointer (some ⟨gb, go + 4, none⟩) : Value) = t38) ∧ (L 9 = true → (.agg #[y0, y1, y2, y3] : Value) = t39) ∧ (L 11 = false → (.slice none 0 0 : Value) = t4) ∧ (L 10 = false → Below W4.heap.size W4 W) ∧ (L 10 = false → W.heap[z]? = some (.cells #[.int .i64 4, .string ⟨⟨t⟩⟩, .int .i64 n, .slice (some ⟨gb, go, none⟩) 2 ca] 33 (0, 0))) ∧ (L 10 = true → HearPost w F g bk bw T r (.returned t40) W) ∧ (L 11 = true → t40 = t4) ∧ (L 10 = true → L 5 = true ∧ L 9 = true) ∧ (L 9 = true → L 8 = true) ∧ (L 8 = true → L 7 = true) ∧ (L 5 = true → L 4 = true) ∧ (L 4 = true → L 3 = true) ∧ (L 3 = true → L 2 = true) ∧ (L 11 = true → L 10 = true)) (by kernel_rfl) ?_ ?_ ?_
        · exact ⟨_, _, _, _, _, _, _, _, _, _, _, _, rfl, nofun, nofun, nofun, nofun, nofun, nofun, nofun, nofun, nofun, nofun, fun _ => rfl, fun _ => HRB.out, fun _ => HZ5.out, nofun, nofun, nofun, nofun, nofun, nofun, nofun, nofun, nofun⟩
        · rintro L _ W i oo ⟨t30, t31, t32, t33, t34, t35, t36, t37, t38, t39, t40, t4, rfl, f0, f1, f2, f3, f4, f5, f6, f7, f8, f9, u11, qb, qz, g10, e11, r10, r9, r8, r5, r4, r3, r11⟩ ho hL hd
          rcases i with _ | _ | _ | _ | _ | _ | _ | _ | _ | _ | _ | _ | i
          · obtain rfl := Option.some.inj ho
            refine wpOp_step rfl fun K hK => ?_
            have F0X := Lib.hid f0
            have F1X := Lib.hid f1
            have F2X := Lib.hid f2
            have F3X := Lib.hid f3
            have F4X := Lib.hid f4
            have F5X := Lib.hid f5
            have F6X := Lib.hid f6
            have F7X := Lib.hid f7
            have F8X := Lib.hid f8
            have F9X := Lib.hid f9
            have U11X := Lib.hid u11
            have QBX := Lib.hid qb
            have QZX := Lib.hid qz
            have G10X := Lib.hid g10
            have E11X := Lib.hid e11
            have R10X := Lib.hid r10
            have R9X := Lib.hid r9
            have R8X := Lib.hid r8
            have R5X := Lib.hid r5
            have R4X := Lib.hid r4
            have R3X := Lib.hid r3
            have R11X := Lib.hid r11
            clear f0 f1 f2 f3 f4 f5 f6 f7 f8 f9 u11 qb qz g10 e11 r10 r9 r8 r5 r4 r3 r11 hd ho hL
            go_simp
            refine hK _ _ ?_
            exact ⟨_, _, _, _, _, _, _, _, _, _, _, _, rfl, fun _ => rfl, F1X.out, F2X.out, F3X.out, F4X.out, F5X.out, F6X.out, F7X.out, F8X.out, F9X.out, U11X.out, QBX.out, QZX.out, G10X.out, E11X.out, R10X.out, R9X.out, R8X.out, R5X.out, R4X.out, R3X.out, R11X.out⟩
          · obtain rfl := Option.some.inj ho
            refine wpOp_step rfl fun K hK => ?_
            have F0X := Lib.hid f0
            have F1X := Lib.hid f1
            have F2X := Lib.hid f2
            have F3X := Lib.hid f3
            have F4X := Lib.hid f4
            have F5X := Lib.hid f5
            have F6X := Lib.hid f6
            have F7X := Lib.hid f7
            have F8X := Lib.hid f8
            have F9X := Lib.hid f9
            have U11X := Lib.hid u11
            have QBX := Lib.hid qb
            have QZX := Lib.hid qz
            have G10X := Lib.hid g10
            have E11X := Lib.hid e11
            have R10X := Lib.hid r10
            have R9X := Lib.hid r9
            have R8X := Lib.hid r8
            have R5X := Lib.hid r5
            have R4X := Lib.hid r4
            have R3X := Lib.hid r3
            have R11X := Lib.hid r11
            clear f0 f1 f2 f3 f4 f5 f6 f7 f8 f9 u11 qb qz g10 e11 r10 r9 r8 r5 r4 r3 r11 hd ho hL
            go_simp
            refine hK _ _ ?_
            exact ⟨_, _, _, _, _, _, _, _, _, _, _, _, rfl, F0X.out, fun _ => rfl, F2X.out, F3X.out, F4X.out, F5X.out, F6X.out, F7X.out, F8X.out, F9X.out, U11X.out, QBX.out, QZX.out, G10X.out, E11X.out, R10X.out, R9X.out, R8X.out, R5X.out, R4X.out, R3X.out, R11X.out⟩
          · obtain rfl := Option.some.inj ho
            have l1 := hd ⟨1, .data⟩ (by simp) rfl
            obtain rfl := f1 l1
            have h3 : L 3 = false := by cases hq : L 3 with | false => rfl | true => (have := r3 hq; simp [hL] at this)
            have h4 : L 4 = false := by cases hq : L 4 with | false => rfl | true => (have := r4 hq; simp [h3] at this)
            have h5 : L 5 = false := by cases hq : L 5 with | false => rfl | true => (have := r5 hq; simp [h4] at this)
            have h10 : L 10 = false := by cases hq : L 10 with | false => rfl | true => (have := (fun h => (r10 h).1) hq; simp [h5] at this)
            have hcc := (cell4 (qz h10)).2.2.2
            clear h3 h4 h5 h10
            refine wpOp_step rfl fun K hK => ?_
            have F0X := Lib.hid f0
            have F1X := Lib.hid f1
            have F2X := Lib.hid f2
            have F3X := Lib.hid f3
            have F4X := Lib.hid f4
            have F5X := Lib.hid f5
            have F6X := Lib.hid f6
            have F7X := Lib.hid f7
            have F8X := Lib.hid f8
            have F9X := Lib.hid f9
            have U11X := Lib.hid u11
            have QBX := Lib.hid qb
            have QZX := Lib.hid qz
            have G10X := Lib.hid g10
            have E11X := Lib.hid e11
            have R10X := Lib.hid r10
            have R9X := Lib.hid r9
            have R8X := Lib.hid r8
            have R5X := Lib.hid r5
            have R4X := Lib.hid r4
            have R3X := Lib.hid r3
            have R11X := Lib.hid r11
            clear f0 f1 f2 f3 f4 f5 f6 f7 f8 f9 u11 qb qz g10 e11 r10 r9 r8 r5 r4 r3 r11 hd ho hL l1
            go_simp
            refine hK _ _ ?_
            exact ⟨_, _, _, _, _, _, _, _, _, _, _, _, rfl, F0X.out, F1X.out, fun _ => rfl, F3X.out, F4X.out, F5X.out, F6X.out, F7X.out, F8X.out, F9X.out, U11X.out, QBX.out, QZX.out, G10X.out, E11X.out, R10X.out, R9X.out, R8X.out, R5X.out, R4X.out, fun _ => rfl, R11X.out⟩
          · obtain rfl := Option.some.inj ho
            have l2 := hd ⟨2, .data⟩ (by simp) rfl
            obtain rfl := f2 l2
            have L2X := Lib.hid l2
            refine wpOp_step rfl fun K hK => ?_
            have F0X := Lib.hid f0
            have F1X := Lib.hid f1
            have F2X := Lib.hid f2
            have F3X := Lib.hid f3
            have F4X := Lib.hid f4
            have F5X := Lib.hid f5
            have F6X := Lib.hid f6
            have F7X := Lib.hid f7
            have F8X := Lib.hid f8
            have F9X := Lib.hid f9
            have U11X := Lib.hid u11
            have QBX := Lib.hid qb
            have QZX := Lib.hid qz
            have G10X := Lib.hid g10
            have E11X := Lib.hid e11
            have R10X := Lib.hid r10
            have R9X := Lib.hid r9
            have R8X := Lib.hid r8
            have R5X := Lib.hid r5
            have R4X := Lib.hid r4
            have R3X := Lib.hid r3
            have R11X := Lib.hid r11
            clear f0 f1 f2 f3 f4 f5 f6 f7 f8 f9 u11 qb qz g10 e11 r10 r9 r8 r5 r4 r3 r11 hd ho hL l2
            go_simp
            refine hK _ _ ?_
            exact ⟨_, _, _, _, _, _, _, _, _, _, _, _, rfl, F0X.out, F1X.out, F2X.out, fun _ => rfl, F4X.out, F5X.out, F6X.out, F7X.out, F8X.out, F9X.out, U11X.out, QBX.out, QZX.out, G10X.out, E11X.out, R10X.out, R9X.out, R8X.out, R5X.out, fun _ => rfl, fun _ => L2X.out, R11X.out⟩
          · obtain rfl := Option.some.inj ho
            have l3 := hd ⟨3, .data⟩ (by simp) rfl
            obtain rfl := f3 l3
            have h5 : L 5 = false := by cases hq : L 5 with | false => rfl | true => (have := r5 hq; simp [hL] at this)
            have h10 : L 10 = false := by cases hq : L 10 with | false => rfl | true => (have := (fun h => (r10 h).1) hq; simp [h5] at this)
            obtain ⟨j0, j1, j2, j3, -, -, -, -⟩ := HCL.out W (qb h10)
            have L3X := Lib.hid l3
            clear h5 h10
            refine wpOp_step rfl fun K hK => ?_
            have F0X := Lib.hid f0
            have F1X := Lib.hid f1
            have F2X := Lib.hid f2
            have F3X := Lib.hid f3
            have F4X := Lib.hid f4
            have F5X := Lib.hid f5
            have F6X := Lib.hid f6
            have F7X := Lib.hid f7
            have F8X := Lib.hid f8
            have F9X := Lib.hid f9
            have U11X := Lib.hid u11
            have QBX := Lib.hid qb
            have QZX := Lib.hid qz
            have G10X := Lib.hid g10
            have E11X := Lib.hid e11
            have R10X := Lib.hid r10
            have R9X := Lib.hid r9
            have R8X := Lib.hid r8
            have R5X := Lib.hid r5
            have R4X := Lib.hid r4
            have R3X := Lib.hid r3
            have R11X := Lib.hid r11
            clear f0 f1 f2 f3 f4 f5 f6 f7 f8 f9 u11 qb qz g10 e11 r10 r9 r8 r5 r4 r3 r11 hd ho hL l3
            go_simp
            refine hK _ _ ?_
            exact ⟨_, _, _, _, _, _, _, _, _, _, _, _, rfl, F0X.out, F1X.out, F2X.out, F3X.out, fun _ => rfl, F5X.out, F6X.out, F7X.out, F8X.out, F9X.out, U11X.out, QBX.out, QZX.out, G10X.out, E11X.out, R10X.out, R9X.out, R8X.out, fun _ => rfl, fun _ => L3X.out, R3X.out, R11X.out⟩
          · obtain rfl := Option.some.inj ho
            have l4 := hd ⟨4, .data⟩ (by simp) rfl
            obtain rfl := f4 l4
            have h10 : L 10 = false := by cases hq : L 10 with | false => rfl | true => (have := (fun h => (r10 h).1) hq; simp [hL] at this)
            have h11 : L 11 = false := by cases hq : L 11 with | false => rfl | true => (have := r11 hq; simp [h10] at this)
            have L4X := Lib.hid l4
            have H10X := Lib.hid (And.intro h10 h11)
            have HC := Lib.hid (HMK.out W (qb h10))
            refine wpOp_step rfl fun K hK => ?_
            have F0X := Lib.hid f0
            have F1X := Lib.hid f1
            have F2X := Lib.hid f2
            have F3X := Lib.hid f3
            have F4X := Lib.hid f4
            have F5X := Lib.hid f5
            have F6X := Lib.hid f6
            have F7X := Lib.hid f7
            have F8X := Lib.hid f8
            have F9X := Lib.hid f9
            have U11X := Lib.hid u11
            have QBX := Lib.hid qb
            have QZX := Lib.hid qz
            have G10X := Lib.hid g10
            have E11X := Lib.hid e11
            have R10X := Lib.hid r10
            have R9X := Lib.hid r9
            have R8X := Lib.hid r8
            have R5X := Lib.hid r5
            have R4X := Lib.hid r4
            have R3X := Lib.hid r3
            have R11X := Lib.hid r11
            clear f0 f1 f2 f3 f4 f5 f6 f7 f8 f9 u11 qb qz g10 e11 r10 r9 r8 r5 r4 r3 r11 hd ho hL l4 h10 h11
            go_simp
            refine HC.out.mono ?_
            rintro _ w1 ⟨rfl, hb1⟩
            refine hK _ _ ?_
            exact ⟨_, _, _, _, _, _, _, _, _, _, _, _, rfl, F0X.out, F1X.out, F2X.out, F3X.out, F4X.out, fun _ => rfl, F6X.out, F7X.out, F8X.out, F9X.out, U11X.out, fun h => (QBX.out h).trans (hb1.mono (QBX.out h).size), fun h => (hb1.block z (Array.getElem?_eq_some_iff.1 (QZX.out h)).1).trans (QZX.out h), fun h => absurd (show L 10 = true from h) (by simp [H10X.out.1]), fun h => absurd (show L 11 = true from h) (by simp [H10X.out.2]), fun h => ⟨rfl, (R10X.out h).2⟩, R9X.out, R8X.out, fun _ => L4X.out, R4X.out, R3X.out, R11X.out⟩
          · obtain rfl := Option.some.inj ho
            refine wpOp_step rfl fun K hK => ?_
            have F0X := Lib.hid f0
            have F1X := Lib.hid f1
            have F2X := Lib.hid f2
            have F3X := Lib.hid f3
            have F4X := Lib.hid f4
            have F5X := Lib.hid f5
            have F6X := Lib.hid f6
            have F7X := Lib.hid f7
            have F8X := Lib.hid f8
            have F9X := Lib.hid f9
            have U11X := Lib.hid u11
            have QBX := Lib.hid qb
            have QZX := Lib.hid qz
            have G10X := Lib.hid g10
            have E11X := Lib.hid e11
            have R10X := Lib.hid r10
            have R9X := Lib.hid r9
            have R8X := Lib.hid r8
            have R5X := Lib.hid r5
            have R4X := Lib.hid r4
            have R3X := Lib.hid r3
            have R11X := Lib.hid r11
            clear f0 f1 f2 f3 f4 f5 f6 f7 f8 f9 u11 qb qz g10 e11 r10 r9 r8 r5 r4 r3 r11 hd ho hL
            go_simp
            refine hK _ _ ?_
            exact ⟨_, _, _, _, _, _, _, _, _, _, _, _, rfl, F0X.out, F1X.out, F2X.out, F3X.out, F4X.out, F5X.out, fun _ => rfl, F7X.out, F8X.out, F9X.out, U11X.out, QBX.out, QZX.out, G10X.out, E11X.out, R10X.out, R9X.out, R8X.out, R5X.out, R4X.out, R3X.out, R11X.out⟩
          · obtain rfl := Option.some.inj ho
            have l6 := hd ⟨6, .data⟩ (by simp) rfl
            obtain rfl := f6 l6
            have h8 : L 8 = false := by cases hq : L 8 with | false => rfl | true => (have := r8 hq; simp [hL] at this)
            have h9 : L 9 = false := by cases hq : L 9 with | false => rfl | true => (have := r9 hq; simp [h8] at this)
            have h10 : L 10 = false := by cases hq : L 10 with | false => rfl | true => (have := (fun h => (r10 h).2) hq; simp [h9] at this)
            have hcc := (cell4 (qz h10)).2.2.2
            clear h8 h9 h10
            refine wpOp_step rfl fun K hK => ?_
            have F0X := Lib.hid f0
            have F1X := Lib.hid f1
            have F2X := Lib.hid f2
            have F3X := Lib.hid f3
            have F4X := Lib.hid f4
            have F5X := Lib.hid f5
            have F6X := Lib.hid f6
            have F7X := Lib.hid f7
            have F8X := Lib.hid f8
            have F9X := Lib.hid f9
            have U11X := Lib.hid u11
            have QBX := Lib.hid qb
            have QZX := Lib.hid qz
            have G10X := Lib.hid g10
            have E11X := Lib.hid e11
            have R10X := Lib.hid r10
            have R9X := Lib.hid r9
            have R8X := Lib.hid r8
            have R5X := Lib.hid r5
            have R4X := Lib.hid r4
            have R3X := Lib.hid r3
            have R11X := Lib.hid r11
            clear f0 f1 f2 f3 f4 f5 f6 f7 f8 f9 u11 qb qz g10 e11 r10 r9 r8 r5 r4 r3 r11 hd ho hL l6
            go_simp
            refine hK _ _ ?_
            exact ⟨_, _, _, _, _, _, _, _, _, _, _, _, rfl, F0X.out, F1X.out, F2X.out, F3X.out, F4X.out, F5X.out, F6X.out, fun _ => rfl, F8X.out, F9X.out, U11X.out, QBX.out, QZX.out, G10X.out, E11X.out, R10X.out, R9X.out, fun _ => rfl, R5X.out, R4X.out, R3X.out, R11X.out⟩
          · obtain rfl := Option.some.inj ho
            have l7 := hd ⟨7, .data⟩ (by simp) rfl
            obtain rfl := f7 l7
            have L7X := Lib.hid l7
            refine wpOp_step rfl fun K hK => ?_
            have F0X := Lib.hid f0
            have F1X := Lib.hid f1
            have F2X := Lib.hid f2
            have F3X := Lib.hid f3
            have F4X := Lib.hid f4
            have F5X := Lib.hid f5
            have F6X := Lib.hid f6
            have F7X := Lib.hid f7
            have F8X := Lib.hid f8
            have F9X := Lib.hid f9
            have U11X := Lib.hid u11
            have QBX := Lib.hid qb
            have QZX := Lib.hid qz
            have G10X := Lib.hid g10
            have E11X := Lib.hid e11
            have R10X := Lib.hid r10
            have R9X := Lib.hid r9
            have R8X := Lib.hid r8
            have R5X := Lib.hid r5
            have R4X := Lib.hid r4
            have R3X := Lib.hid r3
            have R11X := Lib.hid r11
            clear f0 f1 f2 f3 f4 f5 f6 f7 f8 f9 u11 qb qz g10 e11 r10 r9 r8 r5 r4 r3 r11 hd ho hL l7
            go_simp
            refine hK _ _ ?_
            exact ⟨_, _, _, _, _, _, _, _, _, _, _, _, rfl, F0X.out, F1X.out, F2X.out, F3X.out, F4X.out, F5X.out, F6X.out, F7X.out, fun _ => rfl, F9X.out, U11X.out, QBX.out, QZX.out, G10X.out, E11X.out, R10X.out, fun _ => rfl, fun _ => L7X.out, R5X.out, R4X.out, R3X.out, R11X.out⟩
          · obtain rfl := Option.some.inj ho
            have l8 := hd ⟨8, .data⟩ (by simp) rfl
            obtain rfl := f8 l8
            have h10 : L 10 = false := by cases hq : L 10 with | false => rfl | true => (have := (fun h => (r10 h).2) hq; simp [hL] at this)
            obtain ⟨-, -, -, -, j0, j1, j2, j3⟩ := HCL.out W (qb h10)
            have L8X := Lib.hid l8
            clear h10
            refine wpOp_step rfl fun K hK => ?_
            have F0X := Lib.hid f0
            have F1X := Lib.hid f1
            have F2X := Lib.hid f2
            have F3X := Lib.hid f3
            have F4X := Lib.hid f4
            have F5X := Lib.hid f5
            have F6X := Lib.hid f6
            have F7X := Lib.hid f7
            have F8X := Lib.hid f8
            have F9X := Lib.hid f9
            have U11X := Lib.hid u11
            have QBX := Lib.hid qb
            have QZX := Lib.hid qz
            have G10X := Lib.hid g10
            have E11X := Lib.hid e11
            have R10X := Lib.hid r10
            have R9X := Lib.hid r9
            have R8X := Lib.hid r8
            have R5X := Lib.hid r5
            have R4X := Lib.hid r4
            have R3X := Lib.hid r3
            have R11X := Lib.hid r11
            clear f0 f1 f2 f3 f4 f5 f6 f7 f8 f9 u11 qb qz g10 e11 r10 r9 r8 r5 r4 r3 r11 hd ho hL l8
            go_simp
            refine hK _ _ ?_
            exact ⟨_, _, _, _, _, _, _, _, _, _, _, _, rfl, F0X.out, F1X.out, F2X.out, F3X.out, F4X.out, F5X.out, F6X.out, F7X.out, F8X.out, fun _ => rfl, U11X.out, QBX.out, QZX.out, G10X.out, E11X.out, fun h => ⟨(R10X.out h).1, rfl⟩, fun _ => L8X.out, R8X.out, R5X.out, R4X.out, R3X.out, R11X.out⟩
          · obtain rfl := Option.some.inj ho
            have l0 := hd ⟨0, .data⟩ (by simp) rfl
            have l5 := hd ⟨5, .data⟩ (by simp) rfl
            have l9 := hd ⟨9, .data⟩ (by simp) rfl
            obtain rfl := f0 l0
            obtain rfl := f5 l5
            obtain rfl := f9 l9
            have h11 : L 11 = false := by cases hq : L 11 with | false => rfl | true => (have := r11 hq; simp [hL] at this)
            have L59 := Lib.hid (And.intro l5 l9)
            have H11X := Lib.hid h11
            have HC := Lib.hid (HOP.out W (qb hL))
            refine wpOp_step rfl fun K hK => ?_
            have F0X := Lib.hid f0
            have F1X := Lib.hid f1
            have F2X := Lib.hid f2
            have F3X := Lib.hid f3
            have F4X := Lib.hid f4
            have F5X := Lib.hid f5
            have F6X := Lib.hid f6
            have F7X := Lib.hid f7
            have F8X := Lib.hid f8
            have F9X := Lib.hid f9
            have U11X := Lib.hid u11
            have QBX := Lib.hid qb
            have QZX := Lib.hid qz
            have G10X := Lib.hid g10
            have E11X := Lib.hid e11
            have R10X := Lib.hid r10
            have R9X := Lib.hid r9
            have R8X := Lib.hid r8
            have R5X := Lib.hid r5
            have R4X := Lib.hid r4
            have R3X := Lib.hid r3
            have R11X := Lib.hid r11
            clear f0 f1 f2 f3 f4 f5 f6 f7 f8 f9 u11 qb qz g10 e11 r10 r9 r8 r5 r4 r3 r11 hd ho hL l0 l5 l9 h11
            go_simp
            refine HC.out.mono ?_
            rintro _ w1 ⟨A5, a5, f5, F5, rfl, hp⟩
            refine hK _ _ ?_
            exact ⟨_, _, _, _, _, _, _, _, _, _, _, _, rfl, F0X.out, F1X.out, F2X.out, F3X.out, F4X.out, F5X.out, F6X.out, F7X.out, F8X.out, F9X.out, U11X.out, nofun, nofun, fun _ => ⟨A5, a5, f5, F5, rfl, hp⟩, fun h => absurd (show L 11 = true from h) (by simp [H11X.out]), fun _ => L59.out, R9X.out, R8X.out, R5X.out, R4X.out, R3X.out, fun _ => rfl⟩
          · obtain rfl := Option.some.inj ho
            have l10 := hd ⟨10, .data⟩ (by simp) rfl
            have L10X := Lib.hid l10
            refine wpOp_step rfl fun K hK => ?_
            have F0X := Lib.hid f0
            have F1X := Lib.hid f1
            have F2X := Lib.hid f2
            have F3X := Lib.hid f3
            have F4X := Lib.hid f4
            have F5X := Lib.hid f5
            have F6X := Lib.hid f6
            have F7X := Lib.hid f7
            have F8X := Lib.hid f8
            have F9X := Lib.hid f9
            have U11X := Lib.hid u11
            have QBX := Lib.hid qb
            have QZX := Lib.hid qz
            have G10X := Lib.hid g10
            have E11X := Lib.hid e11
            have R10X := Lib.hid r10
            have R9X := Lib.hid r9
            have R8X := Lib.hid r8
            have R5X := Lib.hid r5
            have R4X := Lib.hid r4
            have R3X := Lib.hid r3
            have R11X := Lib.hid r11
            clear f0 f1 f2 f3 f4 f5 f6 f7 f8 f9 u11 qb qz g10 e11 r10 r9 r8 r5 r4 r3 r11 hd ho hL l10
            go_simp
            refine hK _ _ ?_
            exact ⟨_, _, _, _, _, _, _, _, _, _, _, t40, rfl, F0X.out, F1X.out, F2X.out, F3X.out, F4X.out, F5X.out, F6X.out, F7X.out, F8X.out, F9X.out, nofun, QBX.out, QZX.out, G10X.out, fun _ => rfl, R10X.out, R9X.out, R8X.out, R5X.out, R4X.out, R3X.out, fun _ => L10X.out⟩
          · simp at ho
        · rintro L _ W ⟨t30, t31, t32, t33, t34, t35, t36, t37, t38, t39, t40, t4, rfl, f0, f1, f2, f3, f4, f5, f6, f7, f8, f9, u11, qb, qz, g10, e11, r10, r9, r8, r5, r4, r3, r11⟩ hall
          obtain rfl := f0 (hall 0 (by decide))
          obtain rfl := f1 (hall 1 (by decide))
          obtain rfl := f2 (hall 2 (by decide))
          obtain rfl := f3 (hall 3 (by decide))
          obtain rfl := f4 (hall 4 (by decide))
          obtain rfl := f5 (hall 5 (by decide))
          obtain rfl := f6 (hall 6 (by decide))
          obtain rfl := f7 (hall 7 (by decide))
          obtain rfl := f8 (hall 8 (by decide))
          obtain rfl := f9 (hall 9 (by decide))
          have hf := g10 (hall 10 (by decide))
          obtain rfl := e11 (hall 11 (by decide))
          have HF := Lib.hid hf
          clear qb qz g10 e11 r10 r9 r8 r5 r4 r3 r11 hf hall u11
          go_wp2
          go_ret
          exact HF.out
      by_cases h5 : k = 5
      · subst h5
        obtain ⟨a, b, rfl, hak, -, -⟩ := mis_key hmis (.inr rfl)
        obtain ⟨A', ca', hv', -, hrow'⟩ := repc_mk.1 HR4.out
        injection hv' with hv'
        simp at hv'
        obtain ⟨rfl, rfl⟩ := hv'
        obtain ⟨gb, go, x0, x1, x2, x3, y0, y1, y2, y3, rfl, hgb, -, -, -, -, -, k0, k1, k2, k3, hrb⟩ := trow_two hrow'
        have HQ : Hid (QRow W T [b] (some ⟨gb, go + 4, none⟩)) := .inr ⟨gb, go + 4, [y0, y1, y2, y3], rfl, elsc_one hrb, fun j u hj => by
          match j, hj with
          | 0, hj => simp at hj; subst hj; exact k0
          | 1, hj => simp at hj; subst hj; exact k1
          | 2, hj => simp at hj; subst hj; exact k2
          | 3, hj => simp at hj; subst hj; exact k3⟩
        have hca2 : 2 ≤ ca := HCA.out
        have hca1 : ¬ ca = 1 := by omega
        have hca0 : ¬ ca = 0 := by omega
        have hca3 : 1 ≤ ca := by omega
        clear hmis h2 h3 h4 k0 k1 k2 k3 hrb hrow' hak
        go_wp2
        go_ret
        have er : r = (⟨.mk 5 t n [a, b] :: s.kn, s.wt⟩, [b]) := by rw [HRN.out, nw, if_neg (by decide), if_neg (by decide), if_neg (by decide), if_pos rfl]; rfl
        rw [er]
        exact ⟨_, _, f, F, rfl, HQ.out, HTU.out, HS4.out, fun _ h => h, fun _ h => .inl h⟩
      · have er : r = (⟨.mk k t n l :: s.kn, s.wt⟩, []) := by rw [HRN.out, nw, if_neg h2, if_neg h3, if_neg h4, if_neg h5]
        clear hmis
        have HE := Lib.hid er
        clear er
        go_wp2
        go_ret
        rw [HE.out]
        exact ⟨none, 0, f, F, rfl, .inl rfl, HTU.out, HS4.out, fun _ h => h, fun _ h => .inl h⟩
end Go.Proofs.YtiidooponlbnmaaDoor.Kn
