/- opened, where the key is not known. (Laid with NS=1.) -/
import Derived.Test.YtiidooponlbnmaaDoorKnW4
import Derived.Test.YtiidooponlbnmaaDoorTmInv
namespace Go.Proofs.YtiidooponlbnmaaDoor.Kn
open Go.RowKit
open Te Te.Tt
open Go (Lit DataW MemPlace keyOf maxLen)

theorem look_run {W : World} {b n : Nat} {D : DataW Value} {m : List UInt8} {v : Value} (hown : W.ownsMap Tryd.prog 9 tok b n D) (hk : keyOf Tryd.prog 9 (.string ⟨⟨m⟩⟩) = some (.string m)) (hv : D.atKey (.string m) (.held nils) = .held v) :
    (Instr.lookup 53 (.map (some b)) (.string ⟨⟨m⟩⟩) false).run Tryd.prog W = .ok v W := by
  obtain ⟨v', ps, hrun, hv'⟩ := hown.lookup law Tryd.underlying53 (zeroL W) (tok_mk nils) hk
  rw [hv] at hv'
  obtain rfl := tok_inv hv'
  exact hrun
theorem cellG {W : World} {g bk bw : Nat} (h : W.heap[g]? = some (.cells #[.map (some bk), .map (some bw)] 55 (0, 0))) : W.cell? ⟨g, 0, none⟩ = some (.map (some bk)) ∧ W.cell? ⟨g, 1, none⟩ = some (.map (some bw)) :=
  ⟨by rw [cell_of_row _ _ _ _ _ _ h]; rfl, by rw [cell_of_row _ _ _ _ _ _ h]; rfl⟩
/-- What the row of a key that waits comes to be. -/
def Grew (w : World) (F : Nat → Prop) (g bk bw : Nat) (T : Nat → Prop) (f : Tm → Value) (s : St) (x y : Tm) (W : World) (v : Value) : Prop :=
  ∃ Wb, Below w.heap.size w Wb ∧ SR Wb F g bk bw T f s ∧ Grw Wb (f x) W v ∧ OwnC T W 0 v (s.of x ++ [y])

set_option maxHeartbeats 4000000 in
set_option maxRecDepth 100000 in
theorem openedN_any (w : World) (F : Nat → Prop) (g bk bw : Nat) (T : Nat → Prop) (f : Tm → Value) (s : St) (h : SR w F g bk bw T f s) (x y : Tm) (hx : vld 0 x = true) (hl : (mk x).length ≤ 1000000000000) (hk : x ∉ s.kn) (kn0 : List Tm) (hkn : s.kn.length ≤ 100000000)
    (hD : ∃ D, w.ownsMap Tryd.prog 9 tok bw (Maps.size D) D ∧ Maps.size D + 1 ≤ s.kn.length ∧ ∀ k, vld 0 k = true → Maps.has D (.string (mk k)) = decide (St.of ⟨kn0, s.wt⟩ k ≠ []) ∧ D.atKey (.string (mk k)) (.held nils) = .held (f k)) (hlen : (s.of x).length ≤ 900000) (v : Value) (hr : RepC w T y v) :
    Calls Tryd.prog 50 #[.pointer (some ⟨g, 0, none⟩), .string ⟨⟨mk x⟩⟩, v] w fun e w' => e = .returned (.slice none 0 0) ∧ Turn (FT F T) w w' ∧ ∃ f', SR w' (fun i => F i ∨ w.heap.size ≤ i ∧ i < w'.heap.size) g bk bw T f' ⟨s.kn, s.wt ++ [(x, y)]⟩ := by
  obtain ⟨k', s', n', p⟩ := y
  have hr0 := hr
  obtain ⟨A, ca, rfl, -, -⟩ := repc_mk.1 hr
  have hTl : ∀ i, T i → i < w.heap.size := fun i hi => h.lt i (h.tF i hi).1
  have hb1 : Below w.heap.size w (w.alloc (.cells #[.int .i64 k', .string ⟨⟨s'⟩⟩, .int .i64 n', .slice A p.length ca] 33)) := (Below.refl _ _).alloc (Nat.le_refl _) _
  have hz := heap_alloc_new w (.cells #[.int .i64 k', .string ⟨⟨s'⟩⟩, .int .i64 n', .slice A p.length ca] 33)
  obtain ⟨z, hzz⟩ : ∃ z, z = w.heap.size := ⟨_, rfl⟩
  rw [← hzz] at hz
  obtain ⟨D, hown, hD2, hD3⟩ := hD
  have HC := Lib.hid (has_any _ F g bk bw T f s (h.below hb1) x hx hl)
  have HB1 := Lib.hid hb1
  have HR := Lib.hid hr0
  have HTL := Lib.hid hTl
  have HZZ := Lib.hid hzz
  have HZ := Lib.hid hz
  have HSR := Lib.hid h
  have HX := Lib.hid hx
  have HD2 := Lib.hid hD2
  have HD3 := Lib.hid hD3
  have HOWN := Lib.hid hown
  have HLEN := Lib.hid hlen
  have HKN := Lib.hid hkn
  have HHK := Lib.hid (hkey (mk x) hl)
  have e : decide (x ∈ s.kn) = false := decide_eq_false hk
  rw [e] at HC
  obtain ⟨m, hm⟩ : ∃ m, m = mk x := ⟨_, rfl⟩
  rw [← hm] at HC HHK ⊢
  have HM := Lib.hid hm
  clear h hx hl hk hr hr0 hb1 hTl hz hzz hm e hD2 hD3 hown hlen hkn
  go_enter Tryd.func50, Tryd.ntmps50
  go_wp2_with fail
  rw [← HZZ.out]
  refine HC.out.mono ?_
  rintro _ w2 ⟨rfl, hb2⟩
  have hlt := (Array.getElem?_eq_some_iff.1 HZ.out).1
  have HZ2 := Lib.hid ((hb2.block z hlt).trans HZ.out)
  have HB2 := Lib.hid (HB1.out.trans (hb2.mono HB1.out.size))
  clear hb2 HC HZ hlt
  -- REGION
  have HGL : Hid (g < w.heap.size) := HSR.out.lt g HSR.out.gF.1
  have HBWL : Hid (bw < w.heap.size) := HSR.out.lt bw HSR.out.gF.2.2
  have HAT : Hid (D.atKey (.string m) (.held nils) = .held (f x)) := by rw [Hid, HM.out]; exact (HD3.out x HX.out).2
  go_wp2_with fail
  refine wp_region_inv (by kernel_rfl) (fun L act W => ∃ t12 t13 t14 t15 t16 t17 t18 t19 t20 t21 t22 t23 t24 t25, act = { tmps := #[.pointer (some ⟨g, 0, none⟩), .string ⟨⟨m⟩⟩, .agg #[.int .i64 k', .string ⟨⟨s'⟩⟩, .int .i64 n', .slice A p.length ca], undef, undef, .pointer (some ⟨z, 0, none⟩), .slice none 0 0, .pointer (some ⟨g, 0, none⟩), .string ⟨⟨m⟩⟩, .bool false, undef, undef, t12, t13, t14, t15, t16, t17, t18, t19, t20, t21, t22, t23, t24, t25], defers := [] } ∧ (L 0 = true → (.pointer (some ⟨g, 0, none⟩) : Value) = t12) ∧ (L 1 = true → (.pointer (some ⟨g, 0, none⟩) : Value) = t13) ∧ (L 2 = true → (.pointer (some ⟨g, 1, none⟩) : Value) = t14) ∧ (L 3 = true → (.map (some bw) : Value) = t15) ∧ (L 4 = true → (.string ⟨⟨m⟩⟩ : Value) = t16) ∧ (L 5 = true → (.pointer (some ⟨g, 0, none⟩) : Value) = t17) ∧ (L 6 = true → (.pointer (some ⟨g, 0, none⟩) : Value) = t18) ∧ (L 7 = true → (.pointer (some ⟨g, 1, none⟩) : Value) = t19) ∧ (L 8 = true → (.map (some bw) : Value) = t20) ∧ (L 9 = true → (.string ⟨⟨m⟩⟩ : Value) = t21) ∧ (L 10 = true → (f x : Value) = t22) ∧ (L 11 = true → (.agg #[.int .i64 k', .string ⟨⟨s'⟩⟩, .int .i64 n', .slice A p.length ca] : Value) = t23) ∧ (L 13 = false → Below w.heap.size w W ∧ SR W F g bk bw T f s ∧ W.heap[z]? = some (.cells #[.int .i64 k', .string ⟨⟨s'⟩⟩, .int .i64 n', .slice A p.length ca] 33 (0, 0))) ∧ (W.heap[g]? = some (.cells #[.map (some bk), .map (some bw)] 55 (0, 0))) ∧ (L 12 = true → L 13 = false → ∃ h, (.slice (some ⟨h, 0, none⟩) 1 1 : Value) = t24 ∧ QRow W T [(.mk k' s' n' p)] (some ⟨h, 0, none⟩)) ∧ (L 13 = true → L 14 = false → Grew w F g bk bw T f s x (.mk k' s' n' p) W t25) ∧ (L 14 = true → Turn (FT F T) w W ∧ ∃ f', SR W (fun i => F i ∨ w.heap.size ≤ i ∧ i < W.heap.size) g bk bw T f' ⟨s.kn, s.wt ++ [(x, (.mk k' s' n' p))]⟩) ∧ (L 12 = true → L 11 = true) ∧ (L 13 = true → L 12 = true ∧ L 10 = true) ∧ (L 14 = true → L 13 = true)) (by kernel_rfl) ?_ ?_ ?_
  · exact ⟨_, _, _, _, _, _, _, _, _, _, _, _, _, _, rfl, nofun, nofun, nofun, nofun, nofun, nofun, nofun, nofun, nofun, nofun, nofun, nofun, fun _ => ⟨HB2.out.drew, (HSR.out.below HB2.out).keep (Nat.le_refl _) (fun _ _ => rfl), HZ2.out⟩, (HB2.out.block g HGL.out).trans HSR.out.st, nofun, nofun, nofun, nofun, nofun, nofun⟩
  · rintro L _ W i oo ⟨t12, t13, t14, t15, t16, t17, t18, t19, t20, t21, t22, t23, t24, t25, rfl, f0, f1, f2, f3, f4, f5, f6, f7, f8, f9, f10, f11, qw, qg, g12, g13, g14, r12, r13, r14⟩ ho hL hd
    rcases i with _ | _ | _ | _ | _ | _ | _ | _ | _ | _ | _ | _ | _ | _ | _ | i
    · obtain rfl := Option.some.inj ho
      refine wpOp_step rfl fun K hK => ?_
      have F0X := Lib.hid f0
      have F1X := Lib.hid f1
      have F2X := Lib.hid f2
      have F3X := Lib.hid f3
      have F4X := Lib.hid f4
      have F5X := Lib.hid f5
      have F6X := Lib.hid f6
      have F7X := Lib.hid f7
      have F8X := Lib.hid f8
      have F9X := Lib.hid f9
      have F10X := Lib.hid f10
      have F11X := Lib.hid f11
      have QWX := Lib.hid qw
      have QGX := Lib.hid qg
      have G12X := Lib.hid g12
      have G13X := Lib.hid g13
      have G14X := Lib.hid g14
      have R12X := Lib.hid r12
      have R13X := Lib.hid r13
      have R14X := Lib.hid r14
      clear f0 f1 f2 f3 f4 f5 f6 f7 f8 f9 f10 f11 qw qg g12 g13 g14 r12 r13 r14 hd ho hL
      go_simp
      refine hK _ _ ?_
      exact ⟨_, _, _, _, _, _, _, _, _, _, _, _, _, _, rfl, fun _ => rfl, F1X.out, F2X.out, F3X.out, F4X.out, F5X.out, F6X.out, F7X.out, F8X.out, F9X.out, F10X.out, F11X.out, QWX.out, QGX.out, G12X.out, G13X.out, G14X.out, R12X.out, R13X.out, R14X.out⟩
    · obtain rfl := Option.some.inj ho
      have l0 := hd ⟨0, .data⟩ (by simp) rfl
      obtain rfl := f0 l0
      have ccg := cellG qg
      have ccg2 := ccg
      refine wpOp_step rfl fun K hK => ?_
      have F0X := Lib.hid f0
      have F1X := Lib.hid f1
      have F2X := Lib.hid f2
      have F3X := Lib.hid f3
      have F4X := Lib.hid f4
      have F5X := Lib.hid f5
      have F6X := Lib.hid f6
      have F7X := Lib.hid f7
      have F8X := Lib.hid f8
      have F9X := Lib.hid f9
      have F10X := Lib.hid f10
      have F11X := Lib.hid f11
      have QWX := Lib.hid qw
      have QGX := Lib.hid qg
      have G12X := Lib.hid g12
      have G13X := Lib.hid g13
      have G14X := Lib.hid g14
      have R12X := Lib.hid r12
      have R13X := Lib.hid r13
      have R14X := Lib.hid r14
      clear f0 f1 f2 f3 f4 f5 f6 f7 f8 f9 f10 f11 qw qg g12 g13 g14 r12 r13 r14 hd ho hL l0
      go_simp
      refine hK _ _ ?_
      exact ⟨_, _, _, _, _, _, _, _, _, _, _, _, _, _, rfl, F0X.out, fun _ => rfl, F2X.out, F3X.out, F4X.out, F5X.out, F6X.out, F7X.out, F8X.out, F9X.out, F10X.out, F11X.out, QWX.out, QGX.out, G12X.out, G13X.out, G14X.out, R12X.out, R13X.out, R14X.out⟩
    · obtain rfl := Option.some.inj ho
      have l1 := hd ⟨1, .data⟩ (by simp) rfl
      obtain rfl := f1 l1
      refine wpOp_step rfl fun K hK => ?_
      have F0X := Lib.hid f0
      have F1X := Lib.hid f1
      have F2X := Lib.hid f2
      have F3X := Lib.hid f3
      have F4X := Lib.hid f4
      have F5X := Lib.hid f5
      have F6X := Lib.hid f6
      have F7X := Lib.hid f7
      have F8X := Lib.hid f8
      have F9X := Lib.hid f9
      have F10X := Lib.hid f10
      have F11X := Lib.hid f11
      have QWX := Lib.hid qw
      have QGX := Lib.hid qg
      have G12X := Lib.hid g12
      have G13X := Lib.hid g13
      have G14X := Lib.hid g14
      have R12X := Lib.hid r12
      have R13X := Lib.hid r13
      have R14X := Lib.hid r14
      clear f0 f1 f2 f3 f4 f5 f6 f7 f8 f9 f10 f11 qw qg g12 g13 g14 r12 r13 r14 hd ho hL l1
      go_simp
      refine hK _ _ ?_
      exact ⟨_, _, _, _, _, _, _, _, _, _, _, _, _, _, rfl, F0X.out, F1X.out, fun _ => rfl, F3X.out, F4X.out, F5X.out, F6X.out, F7X.out, F8X.out, F9X.out, F10X.out, F11X.out, QWX.out, QGX.out, G12X.out, G13X.out, G14X.out, R12X.out, R13X.out, R14X.out⟩
    · obtain rfl := Option.some.inj ho
      have l2 := hd ⟨2, .data⟩ (by simp) rfl
      obtain rfl := f2 l2
      have ccg := cellG qg
      obtain ⟨x0, x1⟩ := ccg
      refine wpOp_step rfl fun K hK => ?_
      have F0X := Lib.hid f0
      have F1X := Lib.hid f1
      have F2X := Lib.hid f2
      have F3X := Lib.hid f3
      have F4X := Lib.hid f4
      have F5X := Lib.hid f5
      have F6X := Lib.hid f6
      have F7X := Lib.hid f7
      have F8X := Lib.hid f8
      have F9X := Lib.hid f9
      have F10X := Lib.hid f10
      have F11X := Lib.hid f11
      have QWX := Lib.hid qw
      have QGX := Lib.hid qg
      have G12X := Lib.hid g12
      have G13X := Lib.hid g13
      have G14X := Lib.hid g14
      have R12X := Lib.hid r12
      have R13X := Lib.hid r13
      have R14X := Lib.hid r14
      clear f0 f1 f2 f3 f4 f5 f6 f7 f8 f9 f10 f11 qw qg g12 g13 g14 r12 r13 r14 hd ho hL l2
      go_simp
      refine hK _ _ ?_
      exact ⟨_, _, _, _, _, _, _, _, _, _, _, _, _, _, rfl, F0X.out, F1X.out, F2X.out, fun _ => rfl, F4X.out, F5X.out, F6X.out, F7X.out, F8X.out, F9X.out, F10X.out, F11X.out, QWX.out, QGX.out, G12X.out, G13X.out, G14X.out, R12X.out, R13X.out, R14X.out⟩
    · obtain rfl := Option.some.inj ho
      refine wpOp_step rfl fun K hK => ?_
      have F0X := Lib.hid f0
      have F1X := Lib.hid f1
      have F2X := Lib.hid f2
      have F3X := Lib.hid f3
      have F4X := Lib.hid f4
      have F5X := Lib.hid f5
      have F6X := Lib.hid f6
      have F7X := Lib.hid f7
      have F8X := Lib.hid f8
      have F9X := Lib.hid f9
      have F10X := Lib.hid f10
      have F11X := Lib.hid f11
      have QWX := Lib.hid qw
      have QGX := Lib.hid qg
      have G12X := Lib.hid g12
      have G13X := Lib.hid g13
      have G14X := Lib.hid g14
      have R12X := Lib.hid r12
      have R13X := Lib.hid r13
      have R14X := Lib.hid r14
      clear f0 f1 f2 f3 f4 f5 f6 f7 f8 f9 f10 f11 qw qg g12 g13 g14 r12 r13 r14 hd ho hL
      go_simp
      refine hK _ _ ?_
      exact ⟨_, _, _, _, _, _, _, _, _, _, _, _, _, _, rfl, F0X.out, F1X.out, F2X.out, F3X.out, fun _ => rfl, F5X.out, F6X.out, F7X.out, F8X.out, F9X.out, F10X.out, F11X.out, QWX.out, QGX.out, G12X.out, G13X.out, G14X.out, R12X.out, R13X.out, R14X.out⟩
    · obtain rfl := Option.some.inj ho
      refine wpOp_step rfl fun K hK => ?_
      have F0X := Lib.hid f0
      have F1X := Lib.hid f1
      have F2X := Lib.hid f2
      have F3X := Lib.hid f3
      have F4X := Lib.hid f4
      have F5X := Lib.hid f5
      have F6X := Lib.hid f6
      have F7X := Lib.hid f7
      have F8X := Lib.hid f8
      have F9X := Lib.hid f9
      have F10X := Lib.hid f10
      have F11X := Lib.hid f11
      have QWX := Lib.hid qw
      have QGX := Lib.hid qg
      have G12X := Lib.hid g12
      have G13X := Lib.hid g13
      have G14X := Lib.hid g14
      have R12X := Lib.hid r12
      have R13X := Lib.hid r13
      have R14X := Lib.hid r14
      clear f0 f1 f2 f3 f4 f5 f6 f7 f8 f9 f10 f11 qw qg g12 g13 g14 r12 r13 r14 hd ho hL
      go_simp
      refine hK _ _ ?_
      exact ⟨_, _, _, _, _, _, _, _, _, _, _, _, _, _, rfl, F0X.out, F1X.out, F2X.out, F3X.out, F4X.out, fun _ => rfl, F6X.out, F7X.out, F8X.out, F9X.out, F10X.out, F11X.out, QWX.out, QGX.out, G12X.out, G13X.out, G14X.out, R12X.out, R13X.out, R14X.out⟩
    · obtain rfl := Option.some.inj ho
      have l5 := hd ⟨5, .data⟩ (by simp) rfl
      obtain rfl := f5 l5
      have ccg := cellG qg
      refine wpOp_step rfl fun K hK => ?_
      have F0X := Lib.hid f0
      have F1X := Lib.hid f1
      have F2X := Lib.hid f2
      have F3X := Lib.hid f3
      have F4X := Lib.hid f4
      have F5X := Lib.hid f5
      have F6X := Lib.hid f6
      have F7X := Lib.hid f7
      have F8X := Lib.hid f8
      have F9X := Lib.hid f9
      have F10X := Lib.hid f10
      have F11X := Lib.hid f11
      have QWX := Lib.hid qw
      have QGX := Lib.hid qg
      have G12X := Lib.hid g12
      have G13X := Lib.hid g13
      have G14X := Lib.hid g14
      have R12X := Lib.hid r12
      have R13X := Lib.hid r13
      have R14X := Lib.hid r14
      clear f0 f1 f2 f3 f4 f5 f6 f7 f8 f9 f10 f11 qw qg g12 g13 g14 r12 r13 r14 hd ho hL l5
      go_simp
      refine hK _ _ ?_
      exact ⟨_, _, _, _, _, _, _, _, _, _, _, _, _, _, rfl, F0X.out, F1X.out, F2X.out, F3X.out, F4X.out, F5X.out, fun _ => rfl, F7X.out, F8X.out, F9X.out, F10X.out, F11X.out, QWX.out, QGX.out, G12X.out, G13X.out, G14X.out, R12X.out, R13X.out, R14X.out⟩
    · obtain rfl := Option.some.inj ho
      have l6 := hd ⟨6, .data⟩ (by simp) rfl
      obtain rfl := f6 l6
      refine wpOp_step rfl fun K hK => ?_
      have F0X := Lib.hid f0
      have F1X := Lib.hid f1
      have F2X := Lib.hid f2
      have F3X := Lib.hid f3
      have F4X := Lib.hid f4
      have F5X := Lib.hid f5
      have F6X := Lib.hid f6
      have F7X := Lib.hid f7
      have F8X := Lib.hid f8
      have F9X := Lib.hid f9
      have F10X := Lib.hid f10
      have F11X := Lib.hid f11
      have QWX := Lib.hid qw
      have QGX := Lib.hid qg
      have G12X := Lib.hid g12
      have G13X := Lib.hid g13
      have G14X := Lib.hid g14
      have R12X := Lib.hid r12
      have R13X := Lib.hid r13
      have R14X := Lib.hid r14
      clear f0 f1 f2 f3 f4 f5 f6 f7 f8 f9 f10 f11 qw qg g12 g13 g14 r12 r13 r14 hd ho hL l6
      go_simp
      refine hK _ _ ?_
      exact ⟨_, _, _, _, _, _, _, _, _, _, _, _, _, _, rfl, F0X.out, F1X.out, F2X.out, F3X.out, F4X.out, F5X.out, F6X.out, fun _ => rfl, F8X.out, F9X.out, F10X.out, F11X.out, QWX.out, QGX.out, G12X.out, G13X.out, G14X.out, R12X.out, R13X.out, R14X.out⟩
    · obtain rfl := Option.some.inj ho
      have l7 := hd ⟨7, .data⟩ (by simp) rfl
      obtain rfl := f7 l7
      have ccg := cellG qg
      obtain ⟨x0, x1⟩ := ccg
      refine wpOp_step rfl fun K hK => ?_
      have F0X := Lib.hid f0
      have F1X := Lib.hid f1
      have F2X := Lib.hid f2
      have F3X := Lib.hid f3
      have F4X := Lib.hid f4
      have F5X := Lib.hid f5
      have F6X := Lib.hid f6
      have F7X := Lib.hid f7
      have F8X := Lib.hid f8
      have F9X := Lib.hid f9
      have F10X := Lib.hid f10
      have F11X := Lib.hid f11
      have QWX := Lib.hid qw
      have QGX := Lib.hid qg
      have G12X := Lib.hid g12
      have G13X := Lib.hid g13
      have G14X := Lib.hid g14
      have R12X := Lib.hid r12
      have R13X := Lib.hid r13
      have R14X := Lib.hid r14
      clear f0 f1 f2 f3 f4 f5 f6 f7 f8 f9 f10 f11 qw qg g12 g13 g14 r12 r13 r14 hd ho hL l7
      go_simp
      refine hK _ _ ?_
      exact ⟨_, _, _, _, _, _, _, _, _, _, _, _, _, _, rfl, F0X.out, F1X.out, F2X.out, F3X.out, F4X.out, F5X.out, F6X.out, F7X.out, fun _ => rfl, F9X.out, F10X.out, F11X.out, QWX.out, QGX.out, G12X.out, G13X.out, G14X.out, R12X.out, R13X.out, R14X.out⟩
    · obtain rfl := Option.some.inj ho
      refine wpOp_step rfl fun K hK => ?_
      have F0X := Lib.hid f0
      have F1X := Lib.hid f1
      have F2X := Lib.hid f2
      have F3X := Lib.hid f3
      have F4X := Lib.hid f4
      have F5X := Lib.hid f5
      have F6X := Lib.hid f6
      have F7X := Lib.hid f7
      have F8X := Lib.hid f8
      have F9X := Lib.hid f9
      have F10X := Lib.hid f10
      have F11X := Lib.hid f11
      have QWX := Lib.hid qw
      have QGX := Lib.hid qg
      have G12X := Lib.hid g12
      have G13X := Lib.hid g13
      have G14X := Lib.hid g14
      have R12X := Lib.hid r12
      have R13X := Lib.hid r13
      have R14X := Lib.hid r14
      clear f0 f1 f2 f3 f4 f5 f6 f7 f8 f9 f10 f11 qw qg g12 g13 g14 r12 r13 r14 hd ho hL
      go_simp
      refine hK _ _ ?_
      exact ⟨_, _, _, _, _, _, _, _, _, _, _, _, _, _, rfl, F0X.out, F1X.out, F2X.out, F3X.out, F4X.out, F5X.out, F6X.out, F7X.out, F8X.out, fun _ => rfl, F10X.out, F11X.out, QWX.out, QGX.out, G12X.out, G13X.out, G14X.out, R12X.out, R13X.out, R14X.out⟩
    · obtain rfl := Option.some.inj ho
      have l8 := hd ⟨8, .data⟩ (by simp) rfl
      have l9 := hd ⟨9, .data⟩ (by simp) rfl
      obtain rfl := f8 l8
      obtain rfl := f9 l9
      have h13 : L 13 = false := by cases hq : L 13 with | false => rfl | true => (have := (fun h => (r13 h).2) hq; simp [hL] at this)
      have hrun := look_run (own_keep HOWN.out ((qw h13).1.block bw HBWL.out)) HHK.out HAT.out
      clear h13
      refine wpOp_step rfl fun K hK => ?_
      refine op_lookup_run _ rfl (.tmp 20) (.tmp 21) 53 rfl _ _ rfl rfl hrun ?_
      have F0X := Lib.hid f0
      have F1X := Lib.hid f1
      have F2X := Lib.hid f2
      have F3X := Lib.hid f3
      have F4X := Lib.hid f4
      have F5X := Lib.hid f5
      have F6X := Lib.hid f6
      have F7X := Lib.hid f7
      have F8X := Lib.hid f8
      have F9X := Lib.hid f9
      have F10X := Lib.hid f10
      have F11X := Lib.hid f11
      have QWX := Lib.hid qw
      have QGX := Lib.hid qg
      have G12X := Lib.hid g12
      have G13X := Lib.hid g13
      have G14X := Lib.hid g14
      have R12X := Lib.hid r12
      have R13X := Lib.hid r13
      have R14X := Lib.hid r14
      clear f0 f1 f2 f3 f4 f5 f6 f7 f8 f9 f10 f11 qw qg g12 g13 g14 r12 r13 r14 hd ho hL l8 l9
      refine hK _ _ ?_
      exact ⟨_, _, _, _, _, _, _, _, _, _, _, _, _, _, rfl, F0X.out, F1X.out, F2X.out, F3X.out, F4X.out, F5X.out, F6X.out, F7X.out, F8X.out, F9X.out, fun _ => rfl, F11X.out, QWX.out, QGX.out, G12X.out, G13X.out, G14X.out, R12X.out, fun h => ⟨(R13X.out h).1, rfl⟩, R14X.out⟩
    · obtain rfl := Option.some.inj ho
      have h12 : L 12 = false := by cases hq : L 12 with | false => rfl | true => (have := r12 hq; simp [hL] at this)
      have h13 : L 13 = false := by cases hq : L 13 with | false => rfl | true => (have := (fun h => (r13 h).1) hq; simp [h12] at this)
      obtain ⟨x0, x1, x2, x3⟩ := cell4 (qw h13).2.2
      clear h12 h13
      refine wpOp_step rfl fun K hK => ?_
      have F0X := Lib.hid f0
      have F1X := Lib.hid f1
      have F2X := Lib.hid f2
      have F3X := Lib.hid f3
      have F4X := Lib.hid f4
      have F5X := Lib.hid f5
      have F6X := Lib.hid f6
      have F7X := Lib.hid f7
      have F8X := Lib.hid f8
      have F9X := Lib.hid f9
      have F10X := Lib.hid f10
      have F11X := Lib.hid f11
      have QWX := Lib.hid qw
      have QGX := Lib.hid qg
      have G12X := Lib.hid g12
      have G13X := Lib.hid g13
      have G14X := Lib.hid g14
      have R12X := Lib.hid r12
      have R13X := Lib.hid r13
      have R14X := Lib.hid r14
      clear f0 f1 f2 f3 f4 f5 f6 f7 f8 f9 f10 f11 qw qg g12 g13 g14 r12 r13 r14 hd ho hL
      go_simp
      refine hK _ _ ?_
      exact ⟨_, _, _, _, _, _, _, _, _, _, _, _, _, _, rfl, F0X.out, F1X.out, F2X.out, F3X.out, F4X.out, F5X.out, F6X.out, F7X.out, F8X.out, F9X.out, F10X.out, fun _ => rfl, QWX.out, QGX.out, G12X.out, G13X.out, G14X.out, fun _ => rfl, R13X.out, R14X.out⟩
    · obtain rfl := Option.some.inj ho
      have l11 := hd ⟨11, .data⟩ (by simp) rfl
      obtain rfl := f11 l11
      have h13 : L 13 = false := by cases hq : L 13 with | false => rfl | true => (have := (fun h => (r13 h).1) hq; simp [hL] at this)
      have h14 : L 14 = false := by cases hq : L 14 with | false => rfl | true => (have := r14 hq; simp [h13] at this)
      have hqw := qw h13
      have HQW := Lib.hid hqw
      have L11X := Lib.hid l11
      have HH := Lib.hid (And.intro h13 h14)
      clear hqw h13 h14
      refine wpOp_step rfl fun K hK => ?_
      have F0X := Lib.hid f0
      have F1X := Lib.hid f1
      have F2X := Lib.hid f2
      have F3X := Lib.hid f3
      have F4X := Lib.hid f4
      have F5X := Lib.hid f5
      have F6X := Lib.hid f6
      have F7X := Lib.hid f7
      have F8X := Lib.hid f8
      have F9X := Lib.hid f9
      have F10X := Lib.hid f10
      have F11X := Lib.hid f11
      have QWX := Lib.hid qw
      have QGX := Lib.hid qg
      have G12X := Lib.hid g12
      have G13X := Lib.hid g13
      have G14X := Lib.hid g14
      have R12X := Lib.hid r12
      have R13X := Lib.hid r13
      have R14X := Lib.hid r14
      clear f0 f1 f2 f3 f4 f5 f6 f7 f8 f9 f10 f11 qw qg g12 g13 g14 r12 r13 r14 hd ho hL l11
      go_simp
      refine hK _ _ ?_
      exact ⟨_, _, _, _, _, _, _, _, _, _, _, _, _, _, rfl, F0X.out, F1X.out, F2X.out, F3X.out, F4X.out, F5X.out, F6X.out, F7X.out, F8X.out, F9X.out, F10X.out, F11X.out, fun h => ⟨(QWX.out h).1.trans (((Below.refl W.heap.size W).alloc (Nat.le_refl _) _).mono (QWX.out h).1.size), (QWX.out h).2.1.below ((Below.refl W.heap.size W).alloc (Nat.le_refl _) _), (((Below.refl W.heap.size W).alloc (Nat.le_refl _) _).block z (Array.getElem?_eq_some_iff.1 (QWX.out h).2.2).1).trans (QWX.out h).2.2⟩, (((Below.refl W.heap.size W).alloc (Nat.le_refl _) _).block g (Array.getElem?_eq_some_iff.1 QGX.out).1).trans QGX.out, fun _ _ => ⟨_, rfl, QRow.new (repc_keep (fun _ h => h) (fun c o hc => HQW.out.1.cell (p := ⟨c, o, none⟩) (HTL.out c hc)) _ _ HR.out) (fun i hi => Nat.lt_of_lt_of_le (HTL.out i hi) HQW.out.1.size) _⟩, fun h => absurd (show L 13 = true from h) (by simp [HH.out.1]), fun h => absurd (show L 14 = true from h) (by simp [HH.out.2]), fun _ => L11X.out, fun h => ⟨rfl, (R13X.out h).2⟩, R14X.out⟩
    · obtain rfl := Option.some.inj ho
      have l10 := hd ⟨10, .data⟩ (by simp) rfl
      have l12 := hd ⟨12, .data⟩ (by simp) rfl
      obtain rfl := f10 l10
      obtain ⟨h, rfl, hq⟩ := g12 l12 hL
      obtain ⟨hb, hsr, hz⟩ := qw hL
      have h14 : L 14 = false := by cases hq : L 14 with | false => rfl | true => (have := r14 hq; simp [hL] at this)
      have hT : ∀ b, T b → b < W.heap.size ∧ (f x).ownBlock ≠ some b := fun b hb' => ⟨Nat.lt_of_lt_of_le (HTL.out b hb') hb.size, fun e => (hsr.fF x HX.out b e).2.1 hb'⟩
      obtain ⟨A2, ca2, hfx⟩ := (hsr.own x HX.out).form
      obtain ⟨v', w2, hr, ho3, hG⟩ := run_appQ W 0 (f x) (s.of x) [(.mk k' s' n' p)] (some ⟨h, 0, none⟩) 1 T (hsr.own x HX.out) hq hT (by have := HLEN.out; simp; omega) (Nat.zero_le _)
      have HG := Lib.hid hG
      have HO := Lib.hid ho3
      have HSB := Lib.hid hsr
      have HBB := Lib.hid hb
      have L1012 := Lib.hid (And.intro l12 l10)
      have H14X := Lib.hid h14
      clear hb hsr hz hT hfx hq hG ho3 h14
      refine wpOp_step rfl fun K hK => ?_
      refine op_append_run _ rfl (.tmp 22) (.tmp 24) 22 22 rfl _ _ rfl rfl hr ?_
      have F0X := Lib.hid f0
      have F1X := Lib.hid f1
      have F2X := Lib.hid f2
      have F3X := Lib.hid f3
      have F4X := Lib.hid f4
      have F5X := Lib.hid f5
      have F6X := Lib.hid f6
      have F7X := Lib.hid f7
      have F8X := Lib.hid f8
      have F9X := Lib.hid f9
      have F10X := Lib.hid f10
      have F11X := Lib.hid f11
      have QWX := Lib.hid qw
      have QGX := Lib.hid qg
      have G12X := Lib.hid g12
      have G13X := Lib.hid g13
      have G14X := Lib.hid g14
      have R12X := Lib.hid r12
      have R13X := Lib.hid r13
      have R14X := Lib.hid r14
      clear f0 f1 f2 f3 f4 f5 f6 f7 f8 f9 f10 f11 qw qg g12 g13 g14 r12 r13 r14 hd ho hL l10 l12
      refine hK _ _ ?_
      exact ⟨_, _, _, _, _, _, _, _, _, _, _, _, _, _, rfl, F0X.out, F1X.out, F2X.out, F3X.out, F4X.out, F5X.out, F6X.out, F7X.out, F8X.out, F9X.out, F10X.out, F11X.out, nofun, (HG.out.grown.block g (HSB.out.lt g HSB.out.gF.1) (fun e => (HSB.out.fF x HX.out g e.symm).2.2.1 rfl)).trans QGX.out, nofun, fun _ _ => ⟨W, HBB.out, HSB.out, HG.out, HO.out⟩, fun h => absurd (show L 14 = true from h) (by simp [H14X.out]), R12X.out, fun _ => L1012.out, fun _ => rfl⟩
    · obtain rfl := Option.some.inj ho
      have l3 := hd ⟨3, .data⟩ (by simp) rfl
      have l4 := hd ⟨4, .data⟩ (by simp) rfl
      have l13 := hd ⟨13, .data⟩ (by simp) rfl
      obtain rfl := f3 l3
      obtain rfl := f4 l4
      obtain ⟨Wb, hb, hsr, hG, ho⟩ := g13 l13 hL
      have hbwn : (f x).ownBlock ≠ some bw := fun e => (hsr.fF x HX.out bw e).2.2.2.2 rfl
      have hbw : W.heap[bw]? = w.heap[bw]? := (hG.grown.block bw (hsr.lt bw hsr.gF.2.2) (fun e => hbwn e.symm)).trans (hb.block bw HBWL.out)
      have hownW := own_keep HOWN.out hbw
      obtain ⟨w2, hrun, ho2, ht2⟩ := hownW.store law Tryd.underlying53 (by have := HD2.out; have := HKN.out; unfold maxLen; omega) HHK.out (tok_mk t25)
      have HF : Hid (Turn (FT F T) w w2 ∧ ∃ f', SR w2 (fun i => F i ∨ w.heap.size ≤ i ∧ i < w2.heap.size) g bk bw T f' ⟨s.kn, s.wt ++ [(x, (.mk k' s' n' p))]⟩) := by
            have hs2 := turned_size ht2
            rw [HM.out] at ho2
            refine ⟨((Turn.of_below hb).trans (Turn.of_grown (F := FT F T) hG.grown (fun i e => ⟨(hsr.fF x HX.out i e).1, (hsr.fF x HX.out i e).2.1⟩)) (fun i hi => .inl hi)).trans (Turn.of_grown (F := FT F T) ht2.grown (fun i e => by injection e with e; subst e; exact ⟨hsr.gF.2.2, fun h => (hsr.tF _ h).2.2.2 rfl⟩)) (fun i hi => .inl hi), _, SR.wide (hsr.wait HD2.out HD3.out (HOWN.out.tidy law) hG ho ho2 ht2 HX.out) (fun i hi => hi.imp id (fun h => ⟨Nat.le_trans hb.size h.1, h.2⟩)) (fun i hi => ?_)⟩
            rcases hi with hi | hi
            · exact Nat.lt_of_lt_of_le (hsr.lt i hi) (Nat.le_trans hG.grown.size hs2)
            · exact hi.2
      have HT2 := Lib.hid ht2
      have L13X := Lib.hid l13
      have HGB : Hid (g ≠ bw) := HSR.out.ne.2.2
      clear hb hsr hG ho hbwn hbw hownW ho2 ht2
      refine wpOp_step rfl fun K hK => ?_
      refine op_update_run _ rfl (.tmp 15) (.tmp 16) (.tmp 25) 53 rfl _ _ _ rfl rfl rfl hrun ?_
      have F0X := Lib.hid f0
      have F1X := Lib.hid f1
      have F2X := Lib.hid f2
      have F3X := Lib.hid f3
      have F4X := Lib.hid f4
      have F5X := Lib.hid f5
      have F6X := Lib.hid f6
      have F7X := Lib.hid f7
      have F8X := Lib.hid f8
      have F9X := Lib.hid f9
      have F10X := Lib.hid f10
      have F11X := Lib.hid f11
      have QWX := Lib.hid qw
      have QGX := Lib.hid qg
      have G12X := Lib.hid g12
      have G13X := Lib.hid g13
      have G14X := Lib.hid g14
      have R12X := Lib.hid r12
      have R13X := Lib.hid r13
      have R14X := Lib.hid r14
      clear f0 f1 f2 f3 f4 f5 f6 f7 f8 f9 f10 f11 qw qg g12 g13 g14 r12 r13 r14 hd ho hL l3 l4 l13
      refine hK _ _ ?_
      exact ⟨_, _, _, _, _, _, _, _, _, _, _, _, _, _, rfl, F0X.out, F1X.out, F2X.out, F3X.out, F4X.out, F5X.out, F6X.out, F7X.out, F8X.out, F9X.out, F10X.out, F11X.out, fun h => absurd (show L 13 = false from h) (by simp [L13X.out]), (turned_block HT2.out (Array.getElem?_eq_some_iff.1 QGX.out).1 HGB.out).trans QGX.out, fun _ h => absurd (show L 13 = false from h) (by simp [L13X.out]), nofun, fun _ => HF.out, R12X.out, R13X.out, fun _ => L13X.out⟩
    · simp at ho
  · rintro L _ W ⟨t12, t13, t14, t15, t16, t17, t18, t19, t20, t21, t22, t23, t24, t25, rfl, f0, f1, f2, f3, f4, f5, f6, f7, f8, f9, f10, f11, qw, qg, g12, g13, g14, r12, r13, r14⟩ hall
    obtain rfl := f0 (hall 0 (by decide))
    obtain rfl := f1 (hall 1 (by decide))
    obtain rfl := f2 (hall 2 (by decide))
    obtain rfl := f3 (hall 3 (by decide))
    obtain rfl := f4 (hall 4 (by decide))
    obtain rfl := f5 (hall 5 (by decide))
    obtain rfl := f6 (hall 6 (by decide))
    obtain rfl := f7 (hall 7 (by decide))
    obtain rfl := f8 (hall 8 (by decide))
    obtain rfl := f9 (hall 9 (by decide))
    obtain rfl := f10 (hall 10 (by decide))
    obtain rfl := f11 (hall 11 (by decide))
    have hf := g14 (hall 14 (by decide))
    have HF := Lib.hid hf
    clear qw qg g12 g13 g14 r12 r13 r14 hf hall
    go_wp2
    go_ret
    exact ⟨rfl, HF.out⟩
end Go.Proofs.YtiidooponlbnmaaDoor.Kn
