/- The law's example. (Laid with NS=1.) -/
import Derived.Test.YtiidooponlbnmaaDoorKnW9
import Derived.Test.YtiidooponlbnmaaDoorKnW11
import Derived.Test.YtiidooponlbnmaaDoorKnEx
import Derived.Test.YtiidooponlbnmaaDoorTmW5
namespace Go.Proofs.YtiidooponlbnmaaDoor.Kn
open Go.RowKit
open Te Te.Tt
open Go (Lit DataW MemPlace keyOf maxLen)

theorem trow_strs (w : World) : SRow (w.alloc (.cells #[.string ⟨#[120]⟩, .string ⟨#[121]⟩] 9)) [[120], [121]] (some ⟨w.heap.size, 0, none⟩) := by
  refine .inr ⟨w.heap.size, 0, rfl, by simp, fun i hi => ?_⟩
  rw [Nat.zero_add, cell_of_row _ _ _ _ _ _ (heap_alloc_new w _)]
  match i, hi with
  | 0, _ => rfl
  | 1, _ => rfl

set_option maxHeartbeats 8000000 in
set_option maxRecDepth 100000 in
theorem worksK_any (w : World) (htab : TabB w.heap.size w) :
    Calls Tryd.prog 8 #[] w fun e w' => e = .returned (.bool true) ∧ Below w.heap.size w w' := by
  have HT := Lib.hid htab
  clear htab
  have I1 : InR 1 := ⟨by omega, by omega⟩
  have I2 : InR 2 := ⟨by omega, by omega⟩
  have I3 : InR 3 := ⟨by omega, by omega⟩
  have I9 : InR 9 := ⟨by omega, by omega⟩
  have I0 : InR 0 := ⟨by omega, by omega⟩
  go_enter Tryd.func8, Tryd.ntmps8
  go_wp2_with fail
  refine (Key_any [97, 110, 110] 1 _).mono ?_
  rintro _ w1 ⟨rfl, b1⟩
  have HB1 := Lib.hid b1
  clear b1
  obtain ⟨z, hz⟩ : ∃ z, z = w1.heap.size := ⟨_, rfl⟩
  obtain ⟨w2, hw2⟩ : ∃ w2, w2 = w1.alloc (.cells #[.int .i64 2, .string ⟨#[97, 110, 110]⟩, .int .i64 1, .slice none 0 0] 33) := ⟨_, rfl⟩
  have hb2 : Below w1.heap.size w1 w2 := by rw [hw2]; exact (Below.refl _ _).alloc (Nat.le_refl _) _
  have hg2 : w2.heap[z]? = some (.cells #[.int .i64 2, .string ⟨#[97, 110, 110]⟩, .int .i64 1, .slice none 0 0] 33 (0, 0)) := by rw [hw2, hz]; exact heap_alloc_new w1 _
  have HB2 := Lib.hid (HB1.out.trans (hb2.mono HB1.out.size))
  have HG2 := Lib.hid hg2
  have HZ := Lib.hid hz
  have HW2 := Lib.hid hw2
  clear hb2 hg2 hz hw2 HB1
  go_wp2_with fail
  rw [← HW2.out, ← HZ.out]
  refine (New_any w2).mono ?_
  rintro _ w3 ⟨g, bk, bw, rfl, hs3, hb3⟩
  have HZL := Lib.hid (Array.getElem?_eq_some_iff.1 HG2.out).1
  have HG3 := Lib.hid ((hb3.block z HZL.out).trans HG2.out)
  have HB3 := Lib.hid (HB2.out.trans (hb3.mono HB2.out.size))
  have HB23 := Lib.hid hb3
  have HS3 := Lib.hid hs3
  clear hs3 hb3 HG2 HW2
  obtain ⟨F0, hF0⟩ : ∃ F0 : Nat → Prop, F0 = fun i => w2.heap.size ≤ i ∧ i < w3.heap.size := ⟨_, rfl⟩
  rw [← hF0] at HS3
  have HF0 := Lib.hid hF0
  clear hF0
  -- REGION
  go_wp2_with fail
  refine wp_region_inv (by kernel_rfl) (fun L act W => ∃ t9 t10 t11 t12 t13 t14, act = { tmps := #[.bool false, .pointer (some ⟨z, 0, none⟩), .pointer (some ⟨g, 0, none⟩), undef, undef, .agg #[.int .i64 2, .string ⟨#[97, 110, 110]⟩, .int .i64 1, .slice none 0 0], .pointer (some ⟨g, 0, none⟩), .pointer (some ⟨g, 0, none⟩), .bool false, t9, t10, t11, t12, t13, t14, undef, undef, undef, undef, undef, undef, undef, undef, undef, undef, undef, undef, undef, undef, undef, undef, undef, undef, undef, undef, undef, undef, undef, undef, undef, undef, undef, undef, undef, undef, undef, undef, undef, undef, undef, undef, undef, undef], defers := [] } ∧ (L 0 = true → (.pointer (some ⟨g, 0, none⟩) : Value) = t9) ∧ (L 1 = true → (.agg #[.int .i64 2, .string ⟨#[97, 110, 110]⟩, .int .i64 1, .slice none 0 0] : Value) = t10) ∧ (L 5 = true → (.tuple #[] : Value) = t14) ∧ (L 5 = false → Below w3.heap.size w3 W) ∧ (W.heap[z]? = some (.cells #[.int .i64 2, .string ⟨#[97, 110, 110]⟩, .int .i64 1, .slice none 0 0] 33 (0, 0))) ∧ (L 2 = true → L 3 = false → ∃ h, (.slice (some ⟨h, 0, none⟩) 2 2 : Value) = t11 ∧ SRow W [[120], [121]] (some ⟨h, 0, none⟩)) ∧ (L 3 = true → L 4 = false → Rep W (Lo W) exR t12) ∧ (L 4 = true → L 5 = false → Rep W (Lo W) exS t13) ∧ (L 5 = true → ∃ Wb, Below w3.heap.size w3 Wb ∧ LearnPost Wb F0 g bk bw (hdn hd0 exS) 100 W) ∧ (L 3 = true → L 2 = true) ∧ (L 4 = true → L 3 = true) ∧ (L 5 = true → L 4 = true)) (by kernel_rfl) ?_ ?_ ?_
  · exact ⟨_, _, _, _, _, _, rfl, nofun, nofun, nofun, fun _ => (Below.refl _ _).drew, HG3.out, nofun, nofun, nofun, nofun, nofun, nofun, nofun⟩
  · rintro L _ W i oo ⟨t9, t10, t11, t12, t13, t14, rfl, f0, f1, f5, qb, qz, g2, g3, g4, g5, r3, r4, r5⟩ ho hL hd
    rcases i with _ | _ | _ | _ | _ | _ | i
    · obtain rfl := Option.some.inj ho
      refine wpOp_step rfl fun K hK => ?_
      have F0X := Lib.hid f0
      have F1X := Lib.hid f1
      have F5X := Lib.hid f5
      have QBX := Lib.hid qb
      have QZX := Lib.hid qz
      have G2X := Lib.hid g2
      have G3X := Lib.hid g3
      have G4X := Lib.hid g4
      have G5X := Lib.hid g5
      have R3X := Lib.hid r3
      have R4X := Lib.hid r4
      have R5X := Lib.hid r5
      clear f0 f1 f5 qb qz g2 g3 g4 g5 r3 r4 r5 hd ho hL
      go_simp
      refine hK _ _ ?_
      exact ⟨_, _, _, _, _, _, rfl, fun _ => rfl, F1X.out, F5X.out, QBX.out, QZX.out, G2X.out, G3X.out, G4X.out, G5X.out, R3X.out, R4X.out, R5X.out⟩
    · obtain rfl := Option.some.inj ho
      obtain ⟨x0, x1, x2, x3⟩ := cell4 qz
      refine wpOp_step rfl fun K hK => ?_
      have F0X := Lib.hid f0
      have F1X := Lib.hid f1
      have F5X := Lib.hid f5
      have QBX := Lib.hid qb
      have QZX := Lib.hid qz
      have G2X := Lib.hid g2
      have G3X := Lib.hid g3
      have G4X := Lib.hid g4
      have G5X := Lib.hid g5
      have R3X := Lib.hid r3
      have R4X := Lib.hid r4
      have R5X := Lib.hid r5
      clear f0 f1 f5 qb qz g2 g3 g4 g5 r3 r4 r5 hd ho hL
      go_simp
      refine hK _ _ ?_
      exact ⟨_, _, _, _, _, _, rfl, F0X.out, fun _ => rfl, F5X.out, QBX.out, QZX.out, G2X.out, G3X.out, G4X.out, G5X.out, R3X.out, R4X.out, R5X.out⟩
    · obtain rfl := Option.some.inj ho
      have h3 : L 3 = false := by cases hq : L 3 with | false => rfl | true => (have := r3 hq; simp [hL] at this)
      have h4 : L 4 = false := by cases hq : L 4 with | false => rfl | true => (have := r4 hq; simp [h3] at this)
      have h5 : L 5 = false := by cases hq : L 5 with | false => rfl | true => (have := r5 hq; simp [h4] at this)
      have HH := Lib.hid (And.intro h3 (And.intro h4 h5))
      clear h3 h4 h5
      refine wpOp_step rfl fun K hK => ?_
      have F0X := Lib.hid f0
      have F1X := Lib.hid f1
      have F5X := Lib.hid f5
      have QBX := Lib.hid qb
      have QZX := Lib.hid qz
      have G2X := Lib.hid g2
      have G3X := Lib.hid g3
      have G4X := Lib.hid g4
      have G5X := Lib.hid g5
      have R3X := Lib.hid r3
      have R4X := Lib.hid r4
      have R5X := Lib.hid r5
      clear f0 f1 f5 qb qz g2 g3 g4 g5 r3 r4 r5 hd ho hL
      go_simp
      refine hK _ _ ?_
      exact ⟨_, _, _, _, _, _, rfl, F0X.out, F1X.out, F5X.out, fun h => (QBX.out h).trans (((Below.refl W.heap.size W).alloc (Nat.le_refl _) _).mono (QBX.out h).size), (((Below.refl W.heap.size W).alloc (Nat.le_refl _) _).block z (Array.getElem?_eq_some_iff.1 QZX.out).1).trans QZX.out, fun _ _ => ⟨_, rfl, trow_strs W⟩, fun h => absurd (show L 3 = true from h) (by simp [HH.out.1]), fun h => absurd (show L 4 = true from h) (by simp [HH.out.2.1]), fun h => absurd (show L 5 = true from h) (by simp [HH.out.2.2]), fun _ => rfl, R4X.out, R5X.out⟩
    · obtain rfl := Option.some.inj ho
      have l2 := hd ⟨2, .data⟩ (by simp) rfl
      have h4 : L 4 = false := by cases hq : L 4 with | false => rfl | true => (have := r4 hq; simp [hL] at this)
      have h5 : L 5 = false := by cases hq : L 5 with | false => rfl | true => (have := r5 hq; simp [h4] at this)
      obtain ⟨hh, rfl, hsr⟩ := g2 l2 hL
      have L2X := Lib.hid l2
      have HH := Lib.hid (And.intro h4 h5)
      have HC := Lib.hid (Row_any [[120], [121]] _ 2 W (by simp) hsr)
      refine wpOp_step rfl fun K hK => ?_
      have F0X := Lib.hid f0
      have F1X := Lib.hid f1
      have F5X := Lib.hid f5
      have QBX := Lib.hid qb
      have QZX := Lib.hid qz
      have G2X := Lib.hid g2
      have G3X := Lib.hid g3
      have G4X := Lib.hid g4
      have G5X := Lib.hid g5
      have R3X := Lib.hid r3
      have R4X := Lib.hid r4
      have R5X := Lib.hid r5
      clear f0 f1 f5 qb qz g2 g3 g4 g5 r3 r4 r5 hd ho hL l2 h4 h5
      go_simp
      refine HC.out.mono ?_
      rintro _ w1 ⟨u, rfl, hb1, hnr⟩
      refine hK _ _ ?_
      exact ⟨_, _, _, _, _, _, rfl, F0X.out, F1X.out, F5X.out, fun h => (QBX.out h).trans (hb1.mono (QBX.out h).size), (hb1.block z (Array.getElem?_eq_some_iff.1 QZX.out).1).trans QZX.out, nofun, fun _ _ => hnr.rep (fun _ h => h.elim) 3 [] 0 I0, fun h => absurd (show L 4 = true from h) (by simp [HH.out.1]), fun h => absurd (show L 5 = true from h) (by simp [HH.out.2]), fun _ => L2X.out, fun _ => rfl, R5X.out⟩
    · obtain rfl := Option.some.inj ho
      have l1 := hd ⟨1, .data⟩ (by simp) rfl
      have l3 := hd ⟨3, .data⟩ (by simp) rfl
      obtain rfl := f1 l1
      have h5 : L 5 = false := by cases hq : L 5 with | false => rfl | true => (have := r5 hq; simp [hL] at this)
      have hr3 := g3 l3 hL
      have L3X := Lib.hid l3
      have HH := Lib.hid h5
      have HC := Lib.hid (Seal_any exK exR _ _ 2 (Lo W) W (rep_flat W (Lo W) 2 [97, 110, 110] 1 I1) hr3 (fun _ h => h))
      refine wpOp_step rfl fun K hK => ?_
      have F0X := Lib.hid f0
      have F1X := Lib.hid f1
      have F5X := Lib.hid f5
      have QBX := Lib.hid qb
      have QZX := Lib.hid qz
      have G2X := Lib.hid g2
      have G3X := Lib.hid g3
      have G4X := Lib.hid g4
      have G5X := Lib.hid g5
      have R3X := Lib.hid r3
      have R4X := Lib.hid r4
      have R5X := Lib.hid r5
      clear f0 f1 f5 qb qz g2 g3 g4 g5 r3 r4 r5 hd ho hL l1 l3 h5
      go_simp
      refine HC.out.mono ?_
      rintro _ w1 ⟨u, rfl, hb1, hnr⟩
      refine hK _ _ ?_
      exact ⟨_, _, _, _, _, _, rfl, F0X.out, F1X.out, F5X.out, fun h => (QBX.out h).trans (hb1.mono (QBX.out h).size), (hb1.block z (Array.getElem?_eq_some_iff.1 QZX.out).1).trans QZX.out, fun h h3 => (by obtain ⟨h1, e1, e2⟩ := G2X.out h h3; exact ⟨h1, e1, e2.below hb1⟩), nofun, fun _ _ => hnr.rep (fun b hb => Nat.lt_of_lt_of_le hb hb1.size) 4 [] 2 I2, fun h => absurd (show L 5 = true from h) (by simp [HH.out]), R3X.out, fun _ => L3X.out, fun _ => rfl⟩
    · obtain rfl := Option.some.inj ho
      have l0 := hd ⟨0, .data⟩ (by simp) rfl
      have l4 := hd ⟨4, .data⟩ (by simp) rfl
      obtain rfl := f0 l0
      have hr4 := g4 l4 hL
      have hqb := qb hL
      have HQB := Lib.hid hqb
      have L4X := Lib.hid l4
      have HC := Lib.hid (Learn_any w.heap.size W F0 g bk bw (fun _ => False) (fun _ => nils) ⟨[], []⟩ (HS3.out.below (HQB.out)) hd0 Inv.start (Nat.le_trans HB3.out.size HQB.out.size) (fun i hi => by rw [HF0.out] at hi; exact Nat.le_trans HB2.out.size hi.1) (HT.out.on (HB3.out.trans (HQB.out.mono HB3.out.size))) exS (Lo W) t13 hr4 (fun _ h => h) 100 (by decide) (by decide))
      refine wpOp_step rfl fun K hK => ?_
      have F0X := Lib.hid f0
      have F1X := Lib.hid f1
      have F5X := Lib.hid f5
      have QBX := Lib.hid qb
      have QZX := Lib.hid qz
      have G2X := Lib.hid g2
      have G3X := Lib.hid g3
      have G4X := Lib.hid g4
      have G5X := Lib.hid g5
      have R3X := Lib.hid r3
      have R4X := Lib.hid r4
      have R5X := Lib.hid r5
      clear f0 f1 f5 qb qz g2 g3 g4 g5 r3 r4 r5 hd ho hL l0 l4 hqb
      go_simp
      refine HC.out.mono ?_
      rintro _ w1 ⟨rfl, hp⟩
      refine hK _ _ ?_
      exact ⟨_, _, _, _, _, _, rfl, F0X.out, F1X.out, fun _ => rfl, nofun, (by obtain ⟨F1, T1, f1, s1, hs1, hi1, ht1, -⟩ := hp; exact (ht1.block z (Array.getElem?_eq_some_iff.1 QZX.out).1 (fun h => by rw [HF0.out] at h; have := HZL.out; omega)).trans QZX.out), fun _ h3 => absurd (show L 3 = false from h3) (by have := R4X.out L4X.out; simp [this]), fun _ h4 => absurd (show L 4 = false from h4) (by simp [L4X.out]), nofun, fun _ => ⟨W, HQB.out, hp⟩, R3X.out, R4X.out, fun _ => L4X.out⟩
    · simp at ho
  · rintro L _ W ⟨t9, t10, t11, t12, t13, t14, rfl, f0, f1, f5, qb, qz, g2, g3, g4, g5, r3, r4, r5⟩ hall
    obtain rfl := f0 (hall 0 (by decide))
    obtain rfl := f1 (hall 1 (by decide))
    obtain rfl := f5 (hall 5 (by decide))
    obtain ⟨Wb, hbb, F1, T1, fz1, s1, hs1, hi1, ht1, hF01, hF1n, hp1⟩ := g5 (hall 5 (by decide))
    have hbw : Below w.heap.size w W := (HB3.out.trans (hbb.mono HB3.out.size)).trans (ht1.below (Nat.le_trans HB3.out.size hbb.size) (fun i hi => by rw [HF0.out] at hi; exact Nat.le_trans HB2.out.size hi.1))
    have hF1B : ∀ i, F1 i → w2.heap.size ≤ i := fun i hi => by
      rcases hF1n i hi with h1 | h1
      · rw [HF0.out] at h1; exact h1.1
      · have h2 := hbb.size
        have h3 := HB23.out.size
        omega
    have HS4 := Lib.hid hs1
    have HI4 := Lib.hid hi1
    have HB4 := Lib.hid hbw
    have HF1B := Lib.hid hF1B
    have HP4 := Lib.hid hp1
    have HG4 := Lib.hid qz
    clear qb qz g2 g3 g4 g5 r3 r4 r5 hall hbb hs1 hi1 ht1 hF01 hF1n hp1 hbw hF1B HS3 HF0 HG3 HB23
    go_wp2_with fail
    refine (Of_any [120] _).mono ?_
    rintro _ w5 ⟨rfl, hb5⟩
    have hkx : (vld 0 exX && decide (exX ∈ s1.kn)) = false := by
      rw [decide_eq_false (fun h => by have := ex_one ((HI4.out.known exX).1 h); cases this)]
      simp
    have HK5 := Knows_any w5 F1 g bk bw T1 fz1 s1 (HS4.out.below hb5) ((HT.out.up HB4.out).up hb5) exX (Lo w5) _ (rep_flat w5 (Lo w5) 0 [120] 0 I0) (fun _ h => h) (by decide)
    rw [hkx] at HK5
    have HK5 := Lib.hid HK5
    have HB5 := Lib.hid hb5
    clear hb5 hkx
    go_wp2_with fail
    refine HK5.out.mono ?_
    rintro _ w6 ⟨rfl, hb6⟩
    have HB46 := Lib.hid (HB5.out.trans (hb6.mono HB5.out.size))
    clear hb6 HK5 HB5
    have hg6 := (HB46.out.block z (Array.getElem?_eq_some_iff.1 HG4.out).1).trans HG4.out
    obtain ⟨c0, c1, c2, c3⟩ := cell4 hg6
    have HG6 := Lib.hid hg6
    have HB6 : Hid (Below w.heap.size w w6) := HB4.out.trans (HB46.out.mono HB4.out.size)
    have HS6 := Lib.hid (HS4.out.below HB46.out)
    have HP5 : Hid (s1.kn.length + wz s1 + sz exK ≤ 101) := by
      have h1 := HP4.out
      have h2 : sz exK = 1 := by decide
      rw [Hid]
      omega
    have HL6 := Lib.hid (Learn_any w.heap.size w6 F1 g bk bw T1 fz1 s1 HS6.out (hdn hd0 exS) HI4.out HB6.out.size (fun i hi => Nat.le_trans HB2.out.size (HF1B.out i hi)) (HT.out.on HB6.out) exK (Lo w6) _ (rep_flat w6 (Lo w6) 2 [97, 110, 110] 1 I1) (fun _ h => h) 101 HP5.out (by decide))
    clear hg6 HS4 HG4 HB46
    go_wp2_with fail
    refine HL6.out.mono ?_
    rintro _ w7 ⟨rfl, F2, T2, fz2, s2, hs2, hi2, ht2, hF12, hF2n, hp2⟩
    have hg7 := (ht2.block z (Array.getElem?_eq_some_iff.1 HG6.out).1 (fun h => by have := HF1B.out z h; have := HZL.out; omega)).trans HG6.out
    have hb7 : Below w.heap.size w w7 := HB6.out.trans (ht2.below HB6.out.size (fun i hi => Nat.le_trans HB2.out.size (HF1B.out i hi)))
    have hkn : ∀ x, x ∈ s2.kn ↔ x ∈ [exS, exK, exR, exX, exY] := fun x => (hi2.known x).trans (ex_all x)
    have hl5 : s2.kn.length = 5 := nodup_len hi2.nd ex_nodup hkn
    have HK7 := Lib.hid (Keys1_any w7 F2 g bk bw T2 fz2 s2 hs2 hi2.ok (by omega) exK (fun x => by
      rw [hkn x]
      constructor
      · rintro ⟨h1, h2⟩
        simp only [List.mem_cons, List.not_mem_nil, or_false] at h1
        rcases h1 with rfl | rfl | rfl | rfl | rfl
        · cases h2
        · rfl
        · cases h2
        · cases h2
        · cases h2
      · rintro rfl
        exact ⟨by simp, rfl⟩))
    have HG7 := Lib.hid hg7
    have HB7 := Lib.hid hb7
    have HS7 := Lib.hid hs2
    have HKN := Lib.hid hkn
    have HL5 := Lib.hid hl5
    clear c0 c1 c2 c3 hs2 hi2 ht2 hF12 hF2n hp2 hg7 hb7 hkn hl5 HL6 HG6 HS6 HF1B HP4 HI4
    go_wp2_with fail
    refine HK7.out.mono ?_
    rintro _ w8 ⟨A8, c8, rfl, hb8⟩
    have HG8 := Lib.hid ((hb8.block z (Array.getElem?_eq_some_iff.1 HG7.out).1).trans HG7.out)
    have HB78 := Lib.hid hb8
    have HKX : Hid (∀ W, Below w7.heap.size w7 W → Calls Tryd.prog 16 #[.pointer (some ⟨g, 0, none⟩), .agg #[.int .i64 0, .string ⟨#[120]⟩, .int .i64 0, .slice none 0 0]] W fun e w' => e = .returned (.bool true) ∧ Below W.heap.size W w') := fun W hW => by
      have h := Knows_any W F2 g bk bw T2 fz2 s2 (HS7.out.below hW) ((HT.out.up HB7.out).up hW) exX (Lo W) _ (rep_flat W (Lo W) 0 [120] 0 I0) (fun _ h => h) (by decide)
      rw [show (vld 0 exX && decide (exX ∈ s2.kn)) = true by rw [exX_vld, decide_eq_true ((HKN.out exX).2 (by simp))]; rfl] at h
      exact h
    have HCM : Hid (∀ W v, Below w7.heap.size w7 W → Rep W (Lo W) exM v → Calls Tryd.prog 17 #[.pointer (some ⟨g, 0, none⟩), v] W fun e w' => e = .returned (.bool true) ∧ Below W.heap.size W w') := fun W v hW hr => by
      have h := Can_any W F2 g bk bw T2 fz2 s2 (HS7.out.below hW) ((HT.out.up HB7.out).up hW) exM (Lo W) v hr (fun _ h => h) (by decide)
      rw [show (vld 0 exM && can s2.kn exM) = true by
        rw [exM_vld]
        have : exK ∈ s2.kn := (HKN.out exK).2 (by simp)
        simp [can, cans, hd1, this]] at h
      exact h
    have HCO : Hid (∀ W, Below w7.heap.size w7 W → Calls Tryd.prog 17 #[.pointer (some ⟨g, 0, none⟩), .agg #[.int .i64 2, .string ⟨#[97, 110, 110]⟩, .int .i64 2, .slice none 0 0]] W fun e w' => e = .returned (.bool false) ∧ Below W.heap.size W w') := fun W hW => by
      have h := Can_any W F2 g bk bw T2 fz2 s2 (HS7.out.below hW) ((HT.out.up HB7.out).up hW) exO (Lo W) _ (rep_flat W (Lo W) 2 [97, 110, 110] 2 I2) (fun _ h => h) (by decide)
      rw [show (vld 0 exO && can s2.kn exO) = false by
        have : exO ∉ s2.kn := fun h => by have := (HKN.out exO).1 h; revert this; decide
        simp [can, this]] at h
      exact h
    have HLN : Hid (∀ W, Below w7.heap.size w7 W → Calls Tryd.prog 20 #[.pointer (some ⟨g, 0, none⟩)] W fun e w' => e = .returned (.int .i64 5) ∧ Below W.heap.size W w') := fun W hW => by
      have h := Len_any W F2 g bk bw T2 fz2 s2 (HS7.out.below hW)
      rw [HL5.out] at h
      exact h
    clear hb8 HG7 HS7 HKN HL5 HK7 HB6 HB4
    go_wp2_with fail
    refine wp_region_inv (by kernel_rfl) (fun L act W => ∃ t23 t24 t25 t26 t27 t28 t29 t30 t31 t32 t33 t34 t35 t36 t37 t38 t39 t40 t41 t42 t43 t44 t45 t46 t47 t48 t49 t50 t51 t52 t0, act = { tmps := #[t0, .pointer (some ⟨z, 0, none⟩), .pointer (some ⟨g, 0, none⟩), .bool false, .slice A8 1 c8, .agg #[.int .i64 2, .string ⟨#[97, 110, 110]⟩, .int .i64 1, .slice none 0 0], .pointer (some ⟨g, 0, none⟩), .pointer (some ⟨g, 0, none⟩), .bool false, .pointer (some ⟨g, 0, none⟩), .agg #[.int .i64 2, .string ⟨#[97, 110, 110]⟩, .int .i64 1, .slice none 0 0], t11, t12, t13, .tuple #[], .pointer (some ⟨g, 0, none⟩), .agg #[.int .i64 0, .string ⟨#[120]⟩, .int .i64 0, .slice none 0 0], .bool false, .pointer (some ⟨g, 0, none⟩), .agg #[.int .i64 2, .string ⟨#[97, 110, 110]⟩, .int .i64 1, .slice none 0 0], .tuple #[], .pointer (some ⟨g, 0, none⟩), .slice A8 1 c8, t23, t24, t25, t26, t27, t28, t29, t30, t31, t32, t33, t34, t35, t36, t37, t38, t39, t40, t41, t42, t43, t44, t45, t46, t47, t48, t49, t50, t51, t52], defers := [] } ∧ (L 0 = true → (.bool false : Value) = t23) ∧ (L 1 = true → (.bool true : Value) = t24) ∧ (L 2 = true → (.bool true : Value) = t25) ∧ (L 3 = true → (.pointer (some ⟨g, 0, none⟩) : Value) = t26) ∧ (L 4 = true → (.agg #[.int .i64 0, .string ⟨#[120]⟩, .int .i64 0, .slice none 0 0] : Value) = t27) ∧ (L 5 = true → (.bool true : Value) = t28) ∧ (L 6 = true → (.bool true : Value) = t29) ∧ (L 7 = true → (.bool true : Value) = t30) ∧ (L 8 = true → (.pointer (some ⟨g, 0, none⟩) : Value) = t31) ∧ (L 9 = true → (.agg #[.int .i64 2, .string ⟨#[97, 110, 110]⟩, .int .i64 1, .slice none 0 0] : Value) = t32) ∧ (L 10 = true → (.agg #[.int .i64 1, .string ⟨#[]⟩, .int .i64 3, .slice none 0 0] : Value) = t33) ∧ (L 12 = true → (.bool true : Value) = t35) ∧ (L 13 = true → (.bool true : Value) = t36) ∧ (L 14 = true → (.bool true : Value) = t37) ∧ (L 15 = true → (.pointer (some ⟨g, 0, none⟩) : Value) = t38) ∧ (L 16 = true → (.agg #[.int .i64 2, .string ⟨#[97, 110, 110]⟩, .int .i64 2, .slice none 0 0] : Value) = t39) ∧ (L 17 = true → (.bool false : Value) = t40) ∧ (L 18 = true → (.bool true : Value) = t41) ∧ (L 19 = true → (.bool true : Value) = t42) ∧ (L 20 = true → (.bool true : Value) = t43) ∧ (L 21 = true → (.slice A8 1 c8 : Value) = t44) ∧ (L 22 = true → (.int .i64 1 : Value) = t45) ∧ (L 23 = true → (.bool true : Value) = t46) ∧ (L 24 = true → (.bool true : Value) = t47) ∧ (L 25 = true → (.bool true : Value) = t48) ∧ (L 26 = true → (.pointer (some ⟨g, 0, none⟩) : Value) = t49) ∧ (L 27 = true → (.int .i64 5 : Value) = t50) ∧ (L 28 = true → (.bool true : Value) = t51) ∧ (L 29 = true → (.bool true : Value) = t52) ∧ (L 30 = true → (.bool true : Value) = t0) ∧ (L 30 = false → (.bool false : Value) = t0) ∧ (Below w7.heap.size w7 W) ∧ (W.heap[z]? = some (.cells #[.int .i64 2, .string ⟨#[97, 110, 110]⟩, .int .i64 1, .slice none 0 0] 33 (0, 0))) ∧ (L 11 = true → Rep W (Lo W) exM t34)) (by kernel_rfl) ?_ ?_ ?_
    · exact ⟨_, _, _, _, _, _, _, _, _, _, _, _, _, _, _, _, _, _, _, _, _, _, _, _, _, _, _, _, _, _, _, rfl, nofun, nofun, nofun, nofun, nofun, nofun, nofun, nofun, nofun, nofun, nofun, nofun, nofun, nofun, nofun, nofun, nofun, nofun, nofun, nofun, nofun, nofun, nofun, nofun, nofun, nofun, nofun, nofun, nofun, nofun, fun _ => rfl, HB78.out.drew, HG8.out, nofun⟩
    · rintro L _ W i oo ⟨t23, t24, t25, t26, t27, t28, t29, t30, t31, t32, t33, t34, t35, t36, t37, t38, t39, t40, t41, t42, t43, t44, t45, t46, t47, t48, t49, t50, t51, t52, t0, rfl, f0, f1, f2, f3, f4, f5, f6, f7, f8, f9, f10, f12, f13, f14, f15, f16, f17, f18, f19, f20, f21, f22, f23, f24, f25, f26, f27, f28, f29, f30, u30, qb, qz, g11⟩ ho hL hd
      rcases i with _ | _ | _ | _ | _ | _ | _ | _ | _ | _ | _ | _ | _ | _ | _ | _ | _ | _ | _ | _ | _ | _ | _ | _ | _ | _ | _ | _ | _ | _ | _ | i
      · obtain rfl := Option.some.inj ho
        refine wpOp_step rfl fun K hK => ?_
        have F0X := Lib.hid f0
        have F1X := Lib.hid f1
        have F2X := Lib.hid f2
        have F3X := Lib.hid f3
        have F4X := Lib.hid f4
        have F5X := Lib.hid f5
        have F6X := Lib.hid f6
        have F7X := Lib.hid f7
        have F8X := Lib.hid f8
        have F9X := Lib.hid f9
        have F10X := Lib.hid f10
        have F12X := Lib.hid f12
        have F13X := Lib.hid f13
        have F14X := Lib.hid f14
        have F15X := Lib.hid f15
        have F16X := Lib.hid f16
        have F17X := Lib.hid f17
        have F18X := Lib.hid f18
        have F19X := Lib.hid f19
        have F20X := Lib.hid f20
        have F21X := Lib.hid f21
        have F22X := Lib.hid f22
        have F23X := Lib.hid f23
        have F24X := Lib.hid f24
        have F25X := Lib.hid f25
        have F26X := Lib.hid f26
        have F27X := Lib.hid f27
        have F28X := Lib.hid f28
        have F29X := Lib.hid f29
        have F30X := Lib.hid f30
        have U30X := Lib.hid u30
        have QBX := Lib.hid qb
        have QZX := Lib.hid qz
        have G11X := Lib.hid g11
        clear f0 f1 f2 f3 f4 f5 f6 f7 f8 f9 f10 f12 f13 f14 f15 f16 f17 f18 f19 f20 f21 f22 f23 f24 f25 f26 f27 f28 f29 f30 u30 qb qz g11 hd ho hL
        go_simp
        refine hK _ _ ?_
        exact ⟨_, _, _, _, _, _, _, _, _, _, _, _, _, _, _, _, _, _, _, _, _, _, _, _, _, _, _, _, _, _, _, rfl, fun _ => rfl, F1X.out, F2X.out, F3X.out, F4X.out, F5X.out, F6X.out, F7X.out, F8X.out, F9X.out, F10X.out, F12X.out, F13X.out, F14X.out, F15X.out, F16X.out, F17X.out, F18X.out, F19X.out, F20X.out, F21X.out, F22X.out, F23X.out, F24X.out, F25X.out, F26X.out, F27X.out, F28X.out, F29X.out, F30X.out, U30X.out, QBX.out, QZX.out, G11X.out⟩
      · obtain rfl := Option.some.inj ho
        have l0 := hd ⟨0, .data⟩ (by simp) rfl
        obtain rfl := f0 l0
        refine wpOp_step rfl fun K hK => ?_
        have F0X := Lib.hid f0
        have F1X := Lib.hid f1
        have F2X := Lib.hid f2
        have F3X := Lib.hid f3
        have F4X := Lib.hid f4
        have F5X := Lib.hid f5
        have F6X := Lib.hid f6
        have F7X := Lib.hid f7
        have F8X := Lib.hid f8
        have F9X := Lib.hid f9
        have F10X := Lib.hid f10
        have F12X := Lib.hid f12
        have F13X := Lib.hid f13
        have F14X := Lib.hid f14
        have F15X := Lib.hid f15
        have F16X := Lib.hid f16
        have F17X := Lib.hid f17
        have F18X := Lib.hid f18
        have F19X := Lib.hid f19
        have F20X := Lib.hid f20
        have F21X := Lib.hid f21
        have F22X := Lib.hid f22
        have F23X := Lib.hid f23
        have F24X := Lib.hid f24
        have F25X := Lib.hid f25
        have F26X := Lib.hid f26
        have F27X := Lib.hid f27
        have F28X := Lib.hid f28
        have F29X := Lib.hid f29
        have F30X := Lib.hid f30
        have U30X := Lib.hid u30
        have QBX := Lib.hid qb
        have QZX := Lib.hid qz
        have G11X := Lib.hid g11
        clear f0 f1 f2 f3 f4 f5 f6 f7 f8 f9 f10 f12 f13 f14 f15 f16 f17 f18 f19 f20 f21 f22 f23 f24 f25 f26 f27 f28 f29 f30 u30 qb qz g11 hd ho hL l0
        go_simp
        refine hK _ _ ?_
        exact ⟨_, _, _, _, _, _, _, _, _, _, _, _, _, _, _, _, _, _, _, _, _, _, _, _, _, _, _, _, _, _, _, rfl, F0X.out, fun _ => rfl, F2X.out, F3X.out, F4X.out, F5X.out, F6X.out, F7X.out, F8X.out, F9X.out, F10X.out, F12X.out, F13X.out, F14X.out, F15X.out, F16X.out, F17X.out, F18X.out, F19X.out, F20X.out, F21X.out, F22X.out, F23X.out, F24X.out, F25X.out, F26X.out, F27X.out, F28X.out, F29X.out, F30X.out, U30X.out, QBX.out, QZX.out, G11X.out⟩
      · obtain rfl := Option.some.inj ho
        have l1 := hd ⟨1, .data⟩ (by simp) rfl
        obtain rfl := f1 l1
        refine wpOp_step rfl fun K hK => ?_
        have F0X := Lib.hid f0
        have F1X := Lib.hid f1
        have F2X := Lib.hid f2
        have F3X := Lib.hid f3
        have F4X := Lib.hid f4
        have F5X := Lib.hid f5
        have F6X := Lib.hid f6
        have F7X := Lib.hid f7
        have F8X := Lib.hid f8
        have F9X := Lib.hid f9
        have F10X := Lib.hid f10
        have F12X := Lib.hid f12
        have F13X := Lib.hid f13
        have F14X := Lib.hid f14
        have F15X := Lib.hid f15
        have F16X := Lib.hid f16
        have F17X := Lib.hid f17
        have F18X := Lib.hid f18
        have F19X := Lib.hid f19
        have F20X := Lib.hid f20
        have F21X := Lib.hid f21
        have F22X := Lib.hid f22
        have F23X := Lib.hid f23
        have F24X := Lib.hid f24
        have F25X := Lib.hid f25
        have F26X := Lib.hid f26
        have F27X := Lib.hid f27
        have F28X := Lib.hid f28
        have F29X := Lib.hid f29
        have F30X := Lib.hid f30
        have U30X := Lib.hid u30
        have QBX := Lib.hid qb
        have QZX := Lib.hid qz
        have G11X := Lib.hid g11
        clear f0 f1 f2 f3 f4 f5 f6 f7 f8 f9 f10 f12 f13 f14 f15 f16 f17 f18 f19 f20 f21 f22 f23 f24 f25 f26 f27 f28 f29 f30 u30 qb qz g11 hd ho hL l1
        go_simp
        refine hK _ _ ?_
        exact ⟨_, _, _, _, _, _, _, _, _, _, _, _, _, _, _, _, _, _, _, _, _, _, _, _, _, _, _, _, _, _, _, rfl, F0X.out, F1X.out, fun _ => rfl, F3X.out, F4X.out, F5X.out, F6X.out, F7X.out, F8X.out, F9X.out, F10X.out, F12X.out, F13X.out, F14X.out, F15X.out, F16X.out, F17X.out, F18X.out, F19X.out, F20X.out, F21X.out, F22X.out, F23X.out, F24X.out, F25X.out, F26X.out, F27X.out, F28X.out, F29X.out, F30X.out, U30X.out, QBX.out, QZX.out, G11X.out⟩
      · obtain rfl := Option.some.inj ho
        have l2 := hd ⟨2, .guard⟩ (by simp) rfl
        obtain rfl := f2 l2
        refine wpOp_step rfl fun K hK => ?_
        have F0X := Lib.hid f0
        have F1X := Lib.hid f1
        have F2X := Lib.hid f2
        have F3X := Lib.hid f3
        have F4X := Lib.hid f4
        have F5X := Lib.hid f5
        have F6X := Lib.hid f6
        have F7X := Lib.hid f7
        have F8X := Lib.hid f8
        have F9X := Lib.hid f9
        have F10X := Lib.hid f10
        have F12X := Lib.hid f12
        have F13X := Lib.hid f13
        have F14X := Lib.hid f14
        have F15X := Lib.hid f15
        have F16X := Lib.hid f16
        have F17X := Lib.hid f17
        have F18X := Lib.hid f18
        have F19X := Lib.hid f19
        have F20X := Lib.hid f20
        have F21X := Lib.hid f21
        have F22X := Lib.hid f22
        have F23X := Lib.hid f23
        have F24X := Lib.hid f24
        have F25X := Lib.hid f25
        have F26X := Lib.hid f26
        have F27X := Lib.hid f27
        have F28X := Lib.hid f28
        have F29X := Lib.hid f29
        have F30X := Lib.hid f30
        have U30X := Lib.hid u30
        have QBX := Lib.hid qb
        have QZX := Lib.hid qz
        have G11X := Lib.hid g11
        clear f0 f1 f2 f3 f4 f5 f6 f7 f8 f9 f10 f12 f13 f14 f15 f16 f17 f18 f19 f20 f21 f22 f23 f24 f25 f26 f27 f28 f29 f30 u30 qb qz g11 hd ho hL l2
        go_simp
        refine hK _ _ ?_
        exact ⟨_, _, _, _, _, _, _, _, _, _, _, _, _, _, _, _, _, _, _, _, _, _, _, _, _, _, _, _, _, _, _, rfl, F0X.out, F1X.out, F2X.out, fun _ => rfl, F4X.out, F5X.out, F6X.out, F7X.out, F8X.out, F9X.out, F10X.out, F12X.out, F13X.out, F14X.out, F15X.out, F16X.out, F17X.out, F18X.out, F19X.out, F20X.out, F21X.out, F22X.out, F23X.out, F24X.out, F25X.out, F26X.out, F27X.out, F28X.out, F29X.out, F30X.out, U30X.out, QBX.out, QZX.out, G11X.out⟩
      · obtain rfl := Option.some.inj ho
        have l2 := hd ⟨2, .guard⟩ (by simp) rfl
        obtain rfl := f2 l2
        have HC := Lib.hid (Of_any [120] W)
        refine wpOp_step rfl fun K hK => ?_
        have F0X := Lib.hid f0
        have F1X := Lib.hid f1
        have F2X := Lib.hid f2
        have F3X := Lib.hid f3
        have F4X := Lib.hid f4
        have F5X := Lib.hid f5
        have F6X := Lib.hid f6
        have F7X := Lib.hid f7
        have F8X := Lib.hid f8
        have F9X := Lib.hid f9
        have F10X := Lib.hid f10
        have F12X := Lib.hid f12
        have F13X := Lib.hid f13
        have F14X := Lib.hid f14
        have F15X := Lib.hid f15
        have F16X := Lib.hid f16
        have F17X := Lib.hid f17
        have F18X := Lib.hid f18
        have F19X := Lib.hid f19
        have F20X := Lib.hid f20
        have F21X := Lib.hid f21
        have F22X := Lib.hid f22
        have F23X := Lib.hid f23
        have F24X := Lib.hid f24
        have F25X := Lib.hid f25
        have F26X := Lib.hid f26
        have F27X := Lib.hid f27
        have F28X := Lib.hid f28
        have F29X := Lib.hid f29
        have F30X := Lib.hid f30
        have U30X := Lib.hid u30
        have QBX := Lib.hid qb
        have QZX := Lib.hid qz
        have G11X := Lib.hid g11
        clear f0 f1 f2 f3 f4 f5 f6 f7 f8 f9 f10 f12 f13 f14 f15 f16 f17 f18 f19 f20 f21 f22 f23 f24 f25 f26 f27 f28 f29 f30 u30 qb qz g11 hd ho hL l2
        go_simp
        refine HC.out.mono ?_
        rintro _ w1 ⟨rfl, hb1⟩
        refine hK _ _ ?_
        exact ⟨_, _, _, _, _, _, _, _, _, _, _, _, _, _, _, _, _, _, _, _, _, _, _, _, _, _, _, _, _, _, _, rfl, F0X.out, F1X.out, F2X.out, F3X.out, fun _ => rfl, F5X.out, F6X.out, F7X.out, F8X.out, F9X.out, F10X.out, F12X.out, F13X.out, F14X.out, F15X.out, F16X.out, F17X.out, F18X.out, F19X.out, F20X.out, F21X.out, F22X.out, F23X.out, F24X.out, F25X.out, F26X.out, F27X.out, F28X.out, F29X.out, F30X.out, U30X.out, QBX.out.trans (hb1.mono QBX.out.size), (hb1.block z (Array.getElem?_eq_some_iff.1 QZX.out).1).trans QZX.out, fun h => (G11X.out h).lo hb1⟩
      · obtain rfl := Option.some.inj ho
        have l3 := hd ⟨3, .data⟩ (by simp) rfl
        have l4 := hd ⟨4, .data⟩ (by simp) rfl
        have l2 := hd ⟨2, .guard⟩ (by simp) rfl
        obtain rfl := f3 l3
        obtain rfl := f4 l4
        obtain rfl := f2 l2
        have HC := Lib.hid (HKX.out W qb)
        refine wpOp_step rfl fun K hK => ?_
        have F0X := Lib.hid f0
        have F1X := Lib.hid f1
        have F2X := Lib.hid f2
        have F3X := Lib.hid f3
        have F4X := Lib.hid f4
        have F5X := Lib.hid f5
        have F6X := Lib.hid f6
        have F7X := Lib.hid f7
        have F8X := Lib.hid f8
        have F9X := Lib.hid f9
        have F10X := Lib.hid f10
        have F12X := Lib.hid f12
        have F13X := Lib.hid f13
        have F14X := Lib.hid f14
        have F15X := Lib.hid f15
        have F16X := Lib.hid f16
        have F17X := Lib.hid f17
        have F18X := Lib.hid f18
        have F19X := Lib.hid f19
        have F20X := Lib.hid f20
        have F21X := Lib.hid f21
        have F22X := Lib.hid f22
        have F23X := Lib.hid f23
        have F24X := Lib.hid f24
        have F25X := Lib.hid f25
        have F26X := Lib.hid f26
        have F27X := Lib.hid f27
        have F28X := Lib.hid f28
        have F29X := Lib.hid f29
        have F30X := Lib.hid f30
        have U30X := Lib.hid u30
        have QBX := Lib.hid qb
        have QZX := Lib.hid qz
        have G11X := Lib.hid g11
        clear f0 f1 f2 f3 f4 f5 f6 f7 f8 f9 f10 f12 f13 f14 f15 f16 f17 f18 f19 f20 f21 f22 f23 f24 f25 f26 f27 f28 f29 f30 u30 qb qz g11 hd ho hL l3 l4 l2
        go_simp
        refine HC.out.mono ?_
        rintro _ w1 ⟨rfl, hb1⟩
        refine hK _ _ ?_
        exact ⟨_, _, _, _, _, _, _, _, _, _, _, _, _, _, _, _, _, _, _, _, _, _, _, _, _, _, _, _, _, _, _, rfl, F0X.out, F1X.out, F2X.out, F3X.out, F4X.out, fun _ => rfl, F6X.out, F7X.out, F8X.out, F9X.out, F10X.out, F12X.out, F13X.out, F14X.out, F15X.out, F16X.out, F17X.out, F18X.out, F19X.out, F20X.out, F21X.out, F22X.out, F23X.out, F24X.out, F25X.out, F26X.out, F27X.out, F28X.out, F29X.out, F30X.out, U30X.out, QBX.out.trans (hb1.mono QBX.out.size), (hb1.block z (Array.getElem?_eq_some_iff.1 QZX.out).1).trans QZX.out, fun h => (G11X.out h).lo hb1⟩
      · obtain rfl := Option.some.inj ho
        have l2 := hd ⟨2, .data⟩ (by simp) rfl
        have l5 := hd ⟨5, .data⟩ (by simp) rfl
        obtain rfl := f2 l2
        obtain rfl := f5 l5
        refine wpOp_step rfl fun K hK => ?_
        have F0X := Lib.hid f0
        have F1X := Lib.hid f1
        have F2X := Lib.hid f2
        have F3X := Lib.hid f3
        have F4X := Lib.hid f4
        have F5X := Lib.hid f5
        have F6X := Lib.hid f6
        have F7X := Lib.hid f7
        have F8X := Lib.hid f8
        have F9X := Lib.hid f9
        have F10X := Lib.hid f10
        have F12X := Lib.hid f12
        have F13X := Lib.hid f13
        have F14X := Lib.hid f14
        have F15X := Lib.hid f15
        have F16X := Lib.hid f16
        have F17X := Lib.hid f17
        have F18X := Lib.hid f18
        have F19X := Lib.hid f19
        have F20X := Lib.hid f20
        have F21X := Lib.hid f21
        have F22X := Lib.hid f22
        have F23X := Lib.hid f23
        have F24X := Lib.hid f24
        have F25X := Lib.hid f25
        have F26X := Lib.hid f26
        have F27X := Lib.hid f27
        have F28X := Lib.hid f28
        have F29X := Lib.hid f29
        have F30X := Lib.hid f30
        have U30X := Lib.hid u30
        have QBX := Lib.hid qb
        have QZX := Lib.hid qz
        have G11X := Lib.hid g11
        clear f0 f1 f2 f3 f4 f5 f6 f7 f8 f9 f10 f12 f13 f14 f15 f16 f17 f18 f19 f20 f21 f22 f23 f24 f25 f26 f27 f28 f29 f30 u30 qb qz g11 hd ho hL l2 l5
        go_simp
        refine hK _ _ ?_
        exact ⟨_, _, _, _, _, _, _, _, _, _, _, _, _, _, _, _, _, _, _, _, _, _, _, _, _, _, _, _, _, _, _, rfl, F0X.out, F1X.out, F2X.out, F3X.out, F4X.out, F5X.out, fun _ => rfl, F7X.out, F8X.out, F9X.out, F10X.out, F12X.out, F13X.out, F14X.out, F15X.out, F16X.out, F17X.out, F18X.out, F19X.out, F20X.out, F21X.out, F22X.out, F23X.out, F24X.out, F25X.out, F26X.out, F27X.out, F28X.out, F29X.out, F30X.out, U30X.out, QBX.out, QZX.out, G11X.out⟩
      · obtain rfl := Option.some.inj ho
        have l6 := hd ⟨6, .data⟩ (by simp) rfl
        obtain rfl := f6 l6
        refine wpOp_step rfl fun K hK => ?_
        have F0X := Lib.hid f0
        have F1X := Lib.hid f1
        have F2X := Lib.hid f2
        have F3X := Lib.hid f3
        have F4X := Lib.hid f4
        have F5X := Lib.hid f5
        have F6X := Lib.hid f6
        have F7X := Lib.hid f7
        have F8X := Lib.hid f8
        have F9X := Lib.hid f9
        have F10X := Lib.hid f10
        have F12X := Lib.hid f12
        have F13X := Lib.hid f13
        have F14X := Lib.hid f14
        have F15X := Lib.hid f15
        have F16X := Lib.hid f16
        have F17X := Lib.hid f17
        have F18X := Lib.hid f18
        have F19X := Lib.hid f19
        have F20X := Lib.hid f20
        have F21X := Lib.hid f21
        have F22X := Lib.hid f22
        have F23X := Lib.hid f23
        have F24X := Lib.hid f24
        have F25X := Lib.hid f25
        have F26X := Lib.hid f26
        have F27X := Lib.hid f27
        have F28X := Lib.hid f28
        have F29X := Lib.hid f29
        have F30X := Lib.hid f30
        have U30X := Lib.hid u30
        have QBX := Lib.hid qb
        have QZX := Lib.hid qz
        have G11X := Lib.hid g11
        clear f0 f1 f2 f3 f4 f5 f6 f7 f8 f9 f10 f12 f13 f14 f15 f16 f17 f18 f19 f20 f21 f22 f23 f24 f25 f26 f27 f28 f29 f30 u30 qb qz g11 hd ho hL l6
        go_simp
        refine hK _ _ ?_
        exact ⟨_, _, _, _, _, _, _, _, _, _, _, _, _, _, _, _, _, _, _, _, _, _, _, _, _, _, _, _, _, _, _, rfl, F0X.out, F1X.out, F2X.out, F3X.out, F4X.out, F5X.out, F6X.out, fun _ => rfl, F8X.out, F9X.out, F10X.out, F12X.out, F13X.out, F14X.out, F15X.out, F16X.out, F17X.out, F18X.out, F19X.out, F20X.out, F21X.out, F22X.out, F23X.out, F24X.out, F25X.out, F26X.out, F27X.out, F28X.out, F29X.out, F30X.out, U30X.out, QBX.out, QZX.out, G11X.out⟩
      · obtain rfl := Option.some.inj ho
        have l7 := hd ⟨7, .guard⟩ (by simp) rfl
        obtain rfl := f7 l7
        refine wpOp_step rfl fun K hK => ?_
        have F0X := Lib.hid f0
        have F1X := Lib.hid f1
        have F2X := Lib.hid f2
        have F3X := Lib.hid f3
        have F4X := Lib.hid f4
        have F5X := Lib.hid f5
        have F6X := Lib.hid f6
        have F7X := Lib.hid f7
        have F8X := Lib.hid f8
        have F9X := Lib.hid f9
        have F10X := Lib.hid f10
        have F12X := Lib.hid f12
        have F13X := Lib.hid f13
        have F14X := Lib.hid f14
        have F15X := Lib.hid f15
        have F16X := Lib.hid f16
        have F17X := Lib.hid f17
        have F18X := Lib.hid f18
        have F19X := Lib.hid f19
        have F20X := Lib.hid f20
        have F21X := Lib.hid f21
        have F22X := Lib.hid f22
        have F23X := Lib.hid f23
        have F24X := Lib.hid f24
        have F25X := Lib.hid f25
        have F26X := Lib.hid f26
        have F27X := Lib.hid f27
        have F28X := Lib.hid f28
        have F29X := Lib.hid f29
        have F30X := Lib.hid f30
        have U30X := Lib.hid u30
        have QBX := Lib.hid qb
        have QZX := Lib.hid qz
        have G11X := Lib.hid g11
        clear f0 f1 f2 f3 f4 f5 f6 f7 f8 f9 f10 f12 f13 f14 f15 f16 f17 f18 f19 f20 f21 f22 f23 f24 f25 f26 f27 f28 f29 f30 u30 qb qz g11 hd ho hL l7
        go_simp
        refine hK _ _ ?_
        exact ⟨_, _, _, _, _, _, _, _, _, _, _, _, _, _, _, _, _, _, _, _, _, _, _, _, _, _, _, _, _, _, _, rfl, F0X.out, F1X.out, F2X.out, F3X.out, F4X.out, F5X.out, F6X.out, F7X.out, fun _ => rfl, F9X.out, F10X.out, F12X.out, F13X.out, F14X.out, F15X.out, F16X.out, F17X.out, F18X.out, F19X.out, F20X.out, F21X.out, F22X.out, F23X.out, F24X.out, F25X.out, F26X.out, F27X.out, F28X.out, F29X.out, F30X.out, U30X.out, QBX.out, QZX.out, G11X.out⟩
      · obtain rfl := Option.some.inj ho
        have l7 := hd ⟨7, .guard⟩ (by simp) rfl
        obtain rfl := f7 l7
        obtain ⟨x0, x1, x2, x3⟩ := cell4 qz
        refine wpOp_step rfl fun K hK => ?_
        have F0X := Lib.hid f0
        have F1X := Lib.hid f1
        have F2X := Lib.hid f2
        have F3X := Lib.hid f3
        have F4X := Lib.hid f4
        have F5X := Lib.hid f5
        have F6X := Lib.hid f6
        have F7X := Lib.hid f7
        have F8X := Lib.hid f8
        have F9X := Lib.hid f9
        have F10X := Lib.hid f10
        have F12X := Lib.hid f12
        have F13X := Lib.hid f13
        have F14X := Lib.hid f14
        have F15X := Lib.hid f15
        have F16X := Lib.hid f16
        have F17X := Lib.hid f17
        have F18X := Lib.hid f18
        have F19X := Lib.hid f19
        have F20X := Lib.hid f20
        have F21X := Lib.hid f21
        have F22X := Lib.hid f22
        have F23X := Lib.hid f23
        have F24X := Lib.hid f24
        have F25X := Lib.hid f25
        have F26X := Lib.hid f26
        have F27X := Lib.hid f27
        have F28X := Lib.hid f28
        have F29X := Lib.hid f29
        have F30X := Lib.hid f30
        have U30X := Lib.hid u30
        have QBX := Lib.hid qb
        have QZX := Lib.hid qz
        have G11X := Lib.hid g11
        clear f0 f1 f2 f3 f4 f5 f6 f7 f8 f9 f10 f12 f13 f14 f15 f16 f17 f18 f19 f20 f21 f22 f23 f24 f25 f26 f27 f28 f29 f30 u30 qb qz g11 hd ho hL l7
        go_simp
        refine hK _ _ ?_
        exact ⟨_, _, _, _, _, _, _, _, _, _, _, _, _, _, _, _, _, _, _, _, _, _, _, _, _, _, _, _, _, _, _, rfl, F0X.out, F1X.out, F2X.out, F3X.out, F4X.out, F5X.out, F6X.out, F7X.out, F8X.out, fun _ => rfl, F10X.out, F12X.out, F13X.out, F14X.out, F15X.out, F16X.out, F17X.out, F18X.out, F19X.out, F20X.out, F21X.out, F22X.out, F23X.out, F24X.out, F25X.out, F26X.out, F27X.out, F28X.out, F29X.out, F30X.out, U30X.out, QBX.out, QZX.out, G11X.out⟩
      · obtain rfl := Option.some.inj ho
        have l7 := hd ⟨7, .guard⟩ (by simp) rfl
        obtain rfl := f7 l7
        have HC := Lib.hid (Num_any 3 W)
        refine wpOp_step rfl fun K hK => ?_
        have F0X := Lib.hid f0
        have F1X := Lib.hid f1
        have F2X := Lib.hid f2
        have F3X := Lib.hid f3
        have F4X := Lib.hid f4
        have F5X := Lib.hid f5
        have F6X := Lib.hid f6
        have F7X := Lib.hid f7
        have F8X := Lib.hid f8
        have F9X := Lib.hid f9
        have F10X := Lib.hid f10
        have F12X := Lib.hid f12
        have F13X := Lib.hid f13
        have F14X := Lib.hid f14
        have F15X := Lib.hid f15
        have F16X := Lib.hid f16
        have F17X := Lib.hid f17
        have F18X := Lib.hid f18
        have F19X := Lib.hid f19
        have F20X := Lib.hid f20
        have F21X := Lib.hid f21
        have F22X := Lib.hid f22
        have F23X := Lib.hid f23
        have F24X := Lib.hid f24
        have F25X := Lib.hid f25
        have F26X := Lib.hid f26
        have F27X := Lib.hid f27
        have F28X := Lib.hid f28
        have F29X := Lib.hid f29
        have F30X := Lib.hid f30
        have U30X := Lib.hid u30
        have QBX := Lib.hid qb
        have QZX := Lib.hid qz
        have G11X := Lib.hid g11
        clear f0 f1 f2 f3 f4 f5 f6 f7 f8 f9 f10 f12 f13 f14 f15 f16 f17 f18 f19 f20 f21 f22 f23 f24 f25 f26 f27 f28 f29 f30 u30 qb qz g11 hd ho hL l7
        go_simp
        refine HC.out.mono ?_
        rintro _ w1 ⟨rfl, hb1⟩
        refine hK _ _ ?_
        exact ⟨_, _, _, _, _, _, _, _, _, _, _, _, _, _, _, _, _, _, _, _, _, _, _, _, _, _, _, _, _, _, _, rfl, F0X.out, F1X.out, F2X.out, F3X.out, F4X.out, F5X.out, F6X.out, F7X.out, F8X.out, F9X.out, fun _ => rfl, F12X.out, F13X.out, F14X.out, F15X.out, F16X.out, F17X.out, F18X.out, F19X.out, F20X.out, F21X.out, F22X.out, F23X.out, F24X.out, F25X.out, F26X.out, F27X.out, F28X.out, F29X.out, F30X.out, U30X.out, QBX.out.trans (hb1.mono QBX.out.size), (hb1.block z (Array.getElem?_eq_some_iff.1 QZX.out).1).trans QZX.out, fun h => (G11X.out h).lo hb1⟩
      · obtain rfl := Option.some.inj ho
        have l9 := hd ⟨9, .data⟩ (by simp) rfl
        have l10 := hd ⟨10, .data⟩ (by simp) rfl
        have l7 := hd ⟨7, .guard⟩ (by simp) rfl
        obtain rfl := f9 l9
        obtain rfl := f10 l10
        obtain rfl := f7 l7
        have HC := Lib.hid (Seal_any exK (.mk 1 [] 3 []) _ _ 9 (Lo W) W (rep_flat W (Lo W) 2 [97, 110, 110] 1 I1) (rep_flat W (Lo W) 1 [] 3 I3) (fun _ h => h))
        refine wpOp_step rfl fun K hK => ?_
        have F0X := Lib.hid f0
        have F1X := Lib.hid f1
        have F2X := Lib.hid f2
        have F3X := Lib.hid f3
        have F4X := Lib.hid f4
        have F5X := Lib.hid f5
        have F6X := Lib.hid f6
        have F7X := Lib.hid f7
        have F8X := Lib.hid f8
        have F9X := Lib.hid f9
        have F10X := Lib.hid f10
        have F12X := Lib.hid f12
        have F13X := Lib.hid f13
        have F14X := Lib.hid f14
        have F15X := Lib.hid f15
        have F16X := Lib.hid f16
        have F17X := Lib.hid f17
        have F18X := Lib.hid f18
        have F19X := Lib.hid f19
        have F20X := Lib.hid f20
        have F21X := Lib.hid f21
        have F22X := Lib.hid f22
        have F23X := Lib.hid f23
        have F24X := Lib.hid f24
        have F25X := Lib.hid f25
        have F26X := Lib.hid f26
        have F27X := Lib.hid f27
        have F28X := Lib.hid f28
        have F29X := Lib.hid f29
        have F30X := Lib.hid f30
        have U30X := Lib.hid u30
        have QBX := Lib.hid qb
        have QZX := Lib.hid qz
        have G11X := Lib.hid g11
        clear f0 f1 f2 f3 f4 f5 f6 f7 f8 f9 f10 f12 f13 f14 f15 f16 f17 f18 f19 f20 f21 f22 f23 f24 f25 f26 f27 f28 f29 f30 u30 qb qz g11 hd ho hL l9 l10 l7
        go_simp
        refine HC.out.mono ?_
        rintro _ w1 ⟨u, rfl, hb1, hnr⟩
        refine hK _ _ ?_
        exact ⟨_, _, _, _, _, _, _, _, _, _, _, _, _, _, _, _, _, _, _, _, _, _, _, _, _, _, _, _, _, _, _, rfl, F0X.out, F1X.out, F2X.out, F3X.out, F4X.out, F5X.out, F6X.out, F7X.out, F8X.out, F9X.out, F10X.out, F12X.out, F13X.out, F14X.out, F15X.out, F16X.out, F17X.out, F18X.out, F19X.out, F20X.out, F21X.out, F22X.out, F23X.out, F24X.out, F25X.out, F26X.out, F27X.out, F28X.out, F29X.out, F30X.out, U30X.out, QBX.out.trans (hb1.mono QBX.out.size), (hb1.block z (Array.getElem?_eq_some_iff.1 QZX.out).1).trans QZX.out, fun _ => hnr.rep (fun b hb => Nat.lt_of_lt_of_le hb hb1.size) 4 [] 9 I9⟩
      · obtain rfl := Option.some.inj ho
        have l8 := hd ⟨8, .data⟩ (by simp) rfl
        have l11 := hd ⟨11, .data⟩ (by simp) rfl
        have l7 := hd ⟨7, .guard⟩ (by simp) rfl
        obtain rfl := f8 l8
        obtain rfl := f7 l7
        have HC := Lib.hid (HCM.out W t34 qb (g11 l11))
        refine wpOp_step rfl fun K hK => ?_
        have F0X := Lib.hid f0
        have F1X := Lib.hid f1
        have F2X := Lib.hid f2
        have F3X := Lib.hid f3
        have F4X := Lib.hid f4
        have F5X := Lib.hid f5
        have F6X := Lib.hid f6
        have F7X := Lib.hid f7
        have F8X := Lib.hid f8
        have F9X := Lib.hid f9
        have F10X := Lib.hid f10
        have F12X := Lib.hid f12
        have F13X := Lib.hid f13
        have F14X := Lib.hid f14
        have F15X := Lib.hid f15
        have F16X := Lib.hid f16
        have F17X := Lib.hid f17
        have F18X := Lib.hid f18
        have F19X := Lib.hid f19
        have F20X := Lib.hid f20
        have F21X := Lib.hid f21
        have F22X := Lib.hid f22
        have F23X := Lib.hid f23
        have F24X := Lib.hid f24
        have F25X := Lib.hid f25
        have F26X := Lib.hid f26
        have F27X := Lib.hid f27
        have F28X := Lib.hid f28
        have F29X := Lib.hid f29
        have F30X := Lib.hid f30
        have U30X := Lib.hid u30
        have QBX := Lib.hid qb
        have QZX := Lib.hid qz
        have G11X := Lib.hid g11
        clear f0 f1 f2 f3 f4 f5 f6 f7 f8 f9 f10 f12 f13 f14 f15 f16 f17 f18 f19 f20 f21 f22 f23 f24 f25 f26 f27 f28 f29 f30 u30 qb qz g11 hd ho hL l8 l11 l7
        go_simp
        refine HC.out.mono ?_
        rintro _ w1 ⟨rfl, hb1⟩
        refine hK _ _ ?_
        exact ⟨_, _, _, _, _, _, _, _, _, _, _, _, _, _, _, _, _, _, _, _, _, _, _, _, _, _, _, _, _, _, _, rfl, F0X.out, F1X.out, F2X.out, F3X.out, F4X.out, F5X.out, F6X.out, F7X.out, F8X.out, F9X.out, F10X.out, fun _ => rfl, F13X.out, F14X.out, F15X.out, F16X.out, F17X.out, F18X.out, F19X.out, F20X.out, F21X.out, F22X.out, F23X.out, F24X.out, F25X.out, F26X.out, F27X.out, F28X.out, F29X.out, F30X.out, U30X.out, QBX.out.trans (hb1.mono QBX.out.size), (hb1.block z (Array.getElem?_eq_some_iff.1 QZX.out).1).trans QZX.out, fun h => (G11X.out h).lo hb1⟩
      · obtain rfl := Option.some.inj ho
        have l7 := hd ⟨7, .data⟩ (by simp) rfl
        have l12 := hd ⟨12, .data⟩ (by simp) rfl
        obtain rfl := f7 l7
        obtain rfl := f12 l12
        refine wpOp_step rfl fun K hK => ?_
        have F0X := Lib.hid f0
        have F1X := Lib.hid f1
        have F2X := Lib.hid f2
        have F3X := Lib.hid f3
        have F4X := Lib.hid f4
        have F5X := Lib.hid f5
        have F6X := Lib.hid f6
        have F7X := Lib.hid f7
        have F8X := Lib.hid f8
        have F9X := Lib.hid f9
        have F10X := Lib.hid f10
        have F12X := Lib.hid f12
        have F13X := Lib.hid f13
        have F14X := Lib.hid f14
        have F15X := Lib.hid f15
        have F16X := Lib.hid f16
        have F17X := Lib.hid f17
        have F18X := Lib.hid f18
        have F19X := Lib.hid f19
        have F20X := Lib.hid f20
        have F21X := Lib.hid f21
        have F22X := Lib.hid f22
        have F23X := Lib.hid f23
        have F24X := Lib.hid f24
        have F25X := Lib.hid f25
        have F26X := Lib.hid f26
        have F27X := Lib.hid f27
        have F28X := Lib.hid f28
        have F29X := Lib.hid f29
        have F30X := Lib.hid f30
        have U30X := Lib.hid u30
        have QBX := Lib.hid qb
        have QZX := Lib.hid qz
        have G11X := Lib.hid g11
        clear f0 f1 f2 f3 f4 f5 f6 f7 f8 f9 f10 f12 f13 f14 f15 f16 f17 f18 f19 f20 f21 f22 f23 f24 f25 f26 f27 f28 f29 f30 u30 qb qz g11 hd ho hL l7 l12
        go_simp
        refine hK _ _ ?_
        exact ⟨_, _, _, _, _, _, _, _, _, _, _, _, _, _, _, _, _, _, _, _, _, _, _, _, _, _, _, _, _, _, _, rfl, F0X.out, F1X.out, F2X.out, F3X.out, F4X.out, F5X.out, F6X.out, F7X.out, F8X.out, F9X.out, F10X.out, F12X.out, fun _ => rfl, F14X.out, F15X.out, F16X.out, F17X.out, F18X.out, F19X.out, F20X.out, F21X.out, F22X.out, F23X.out, F24X.out, F25X.out, F26X.out, F27X.out, F28X.out, F29X.out, F30X.out, U30X.out, QBX.out, QZX.out, G11X.out⟩
      · obtain rfl := Option.some.inj ho
        have l13 := hd ⟨13, .data⟩ (by simp) rfl
        obtain rfl := f13 l13
        refine wpOp_step rfl fun K hK => ?_
        have F0X := Lib.hid f0
        have F1X := Lib.hid f1
        have F2X := Lib.hid f2
        have F3X := Lib.hid f3
        have F4X := Lib.hid f4
        have F5X := Lib.hid f5
        have F6X := Lib.hid f6
        have F7X := Lib.hid f7
        have F8X := Lib.hid f8
        have F9X := Lib.hid f9
        have F10X := Lib.hid f10
        have F12X := Lib.hid f12
        have F13X := Lib.hid f13
        have F14X := Lib.hid f14
        have F15X := Lib.hid f15
        have F16X := Lib.hid f16
        have F17X := Lib.hid f17
        have F18X := Lib.hid f18
        have F19X := Lib.hid f19
        have F20X := Lib.hid f20
        have F21X := Lib.hid f21
        have F22X := Lib.hid f22
        have F23X := Lib.hid f23
        have F24X := Lib.hid f24
        have F25X := Lib.hid f25
        have F26X := Lib.hid f26
        have F27X := Lib.hid f27
        have F28X := Lib.hid f28
        have F29X := Lib.hid f29
        have F30X := Lib.hid f30
        have U30X := Lib.hid u30
        have QBX := Lib.hid qb
        have QZX := Lib.hid qz
        have G11X := Lib.hid g11
        clear f0 f1 f2 f3 f4 f5 f6 f7 f8 f9 f10 f12 f13 f14 f15 f16 f17 f18 f19 f20 f21 f22 f23 f24 f25 f26 f27 f28 f29 f30 u30 qb qz g11 hd ho hL l13
        go_simp
        refine hK _ _ ?_
        exact ⟨_, _, _, _, _, _, _, _, _, _, _, _, _, _, _, _, _, _, _, _, _, _, _, _, _, _, _, _, _, _, _, rfl, F0X.out, F1X.out, F2X.out, F3X.out, F4X.out, F5X.out, F6X.out, F7X.out, F8X.out, F9X.out, F10X.out, F12X.out, F13X.out, fun _ => rfl, F15X.out, F16X.out, F17X.out, F18X.out, F19X.out, F20X.out, F21X.out, F22X.out, F23X.out, F24X.out, F25X.out, F26X.out, F27X.out, F28X.out, F29X.out, F30X.out, U30X.out, QBX.out, QZX.out, G11X.out⟩
      · obtain rfl := Option.some.inj ho
        have l14 := hd ⟨14, .guard⟩ (by simp) rfl
        obtain rfl := f14 l14
        refine wpOp_step rfl fun K hK => ?_
        have F0X := Lib.hid f0
        have F1X := Lib.hid f1
        have F2X := Lib.hid f2
        have F3X := Lib.hid f3
        have F4X := Lib.hid f4
        have F5X := Lib.hid f5
        have F6X := Lib.hid f6
        have F7X := Lib.hid f7
        have F8X := Lib.hid f8
        have F9X := Lib.hid f9
        have F10X := Lib.hid f10
        have F12X := Lib.hid f12
        have F13X := Lib.hid f13
        have F14X := Lib.hid f14
        have F15X := Lib.hid f15
        have F16X := Lib.hid f16
        have F17X := Lib.hid f17
        have F18X := Lib.hid f18
        have F19X := Lib.hid f19
        have F20X := Lib.hid f20
        have F21X := Lib.hid f21
        have F22X := Lib.hid f22
        have F23X := Lib.hid f23
        have F24X := Lib.hid f24
        have F25X := Lib.hid f25
        have F26X := Lib.hid f26
        have F27X := Lib.hid f27
        have F28X := Lib.hid f28
        have F29X := Lib.hid f29
        have F30X := Lib.hid f30
        have U30X := Lib.hid u30
        have QBX := Lib.hid qb
        have QZX := Lib.hid qz
        have G11X := Lib.hid g11
        clear f0 f1 f2 f3 f4 f5 f6 f7 f8 f9 f10 f12 f13 f14 f15 f16 f17 f18 f19 f20 f21 f22 f23 f24 f25 f26 f27 f28 f29 f30 u30 qb qz g11 hd ho hL l14
        go_simp
        refine hK _ _ ?_
        exact ⟨_, _, _, _, _, _, _, _, _, _, _, _, _, _, _, _, _, _, _, _, _, _, _, _, _, _, _, _, _, _, _, rfl, F0X.out, F1X.out, F2X.out, F3X.out, F4X.out, F5X.out, F6X.out, F7X.out, F8X.out, F9X.out, F10X.out, F12X.out, F13X.out, F14X.out, fun _ => rfl, F16X.out, F17X.out, F18X.out, F19X.out, F20X.out, F21X.out, F22X.out, F23X.out, F24X.out, F25X.out, F26X.out, F27X.out, F28X.out, F29X.out, F30X.out, U30X.out, QBX.out, QZX.out, G11X.out⟩
      · obtain rfl := Option.some.inj ho
        have l14 := hd ⟨14, .guard⟩ (by simp) rfl
        obtain rfl := f14 l14
        have HC := Lib.hid (Key_any [97, 110, 110] 2 W)
        refine wpOp_step rfl fun K hK => ?_
        have F0X := Lib.hid f0
        have F1X := Lib.hid f1
        have F2X := Lib.hid f2
        have F3X := Lib.hid f3
        have F4X := Lib.hid f4
        have F5X := Lib.hid f5
        have F6X := Lib.hid f6
        have F7X := Lib.hid f7
        have F8X := Lib.hid f8
        have F9X := Lib.hid f9
        have F10X := Lib.hid f10
        have F12X := Lib.hid f12
        have F13X := Lib.hid f13
        have F14X := Lib.hid f14
        have F15X := Lib.hid f15
        have F16X := Lib.hid f16
        have F17X := Lib.hid f17
        have F18X := Lib.hid f18
        have F19X := Lib.hid f19
        have F20X := Lib.hid f20
        have F21X := Lib.hid f21
        have F22X := Lib.hid f22
        have F23X := Lib.hid f23
        have F24X := Lib.hid f24
        have F25X := Lib.hid f25
        have F26X := Lib.hid f26
        have F27X := Lib.hid f27
        have F28X := Lib.hid f28
        have F29X := Lib.hid f29
        have F30X := Lib.hid f30
        have U30X := Lib.hid u30
        have QBX := Lib.hid qb
        have QZX := Lib.hid qz
        have G11X := Lib.hid g11
        clear f0 f1 f2 f3 f4 f5 f6 f7 f8 f9 f10 f12 f13 f14 f15 f16 f17 f18 f19 f20 f21 f22 f23 f24 f25 f26 f27 f28 f29 f30 u30 qb qz g11 hd ho hL l14
        go_simp
        refine HC.out.mono ?_
        rintro _ w1 ⟨rfl, hb1⟩
        refine hK _ _ ?_
        exact ⟨_, _, _, _, _, _, _, _, _, _, _, _, _, _, _, _, _, _, _, _, _, _, _, _, _, _, _, _, _, _, _, rfl, F0X.out, F1X.out, F2X.out, F3X.out, F4X.out, F5X.out, F6X.out, F7X.out, F8X.out, F9X.out, F10X.out, F12X.out, F13X.out, F14X.out, F15X.out, fun _ => rfl, F17X.out, F18X.out, F19X.out, F20X.out, F21X.out, F22X.out, F23X.out, F24X.out, F25X.out, F26X.out, F27X.out, F28X.out, F29X.out, F30X.out, U30X.out, QBX.out.trans (hb1.mono QBX.out.size), (hb1.block z (Array.getElem?_eq_some_iff.1 QZX.out).1).trans QZX.out, fun h => (G11X.out h).lo hb1⟩
      · obtain rfl := Option.some.inj ho
        have l15 := hd ⟨15, .data⟩ (by simp) rfl
        have l16 := hd ⟨16, .data⟩ (by simp) rfl
        have l14 := hd ⟨14, .guard⟩ (by simp) rfl
        obtain rfl := f15 l15
        obtain rfl := f16 l16
        obtain rfl := f14 l14
        have HC := Lib.hid (HCO.out W qb)
        refine wpOp_step rfl fun K hK => ?_
        have F0X := Lib.hid f0
        have F1X := Lib.hid f1
        have F2X := Lib.hid f2
        have F3X := Lib.hid f3
        have F4X := Lib.hid f4
        have F5X := Lib.hid f5
        have F6X := Lib.hid f6
        have F7X := Lib.hid f7
        have F8X := Lib.hid f8
        have F9X := Lib.hid f9
        have F10X := Lib.hid f10
        have F12X := Lib.hid f12
        have F13X := Lib.hid f13
        have F14X := Lib.hid f14
        have F15X := Lib.hid f15
        have F16X := Lib.hid f16
        have F17X := Lib.hid f17
        have F18X := Lib.hid f18
        have F19X := Lib.hid f19
        have F20X := Lib.hid f20
        have F21X := Lib.hid f21
        have F22X := Lib.hid f22
        have F23X := Lib.hid f23
        have F24X := Lib.hid f24
        have F25X := Lib.hid f25
        have F26X := Lib.hid f26
        have F27X := Lib.hid f27
        have F28X := Lib.hid f28
        have F29X := Lib.hid f29
        have F30X := Lib.hid f30
        have U30X := Lib.hid u30
        have QBX := Lib.hid qb
        have QZX := Lib.hid qz
        have G11X := Lib.hid g11
        clear f0 f1 f2 f3 f4 f5 f6 f7 f8 f9 f10 f12 f13 f14 f15 f16 f17 f18 f19 f20 f21 f22 f23 f24 f25 f26 f27 f28 f29 f30 u30 qb qz g11 hd ho hL l15 l16 l14
        go_simp
        refine HC.out.mono ?_
        rintro _ w1 ⟨rfl, hb1⟩
        refine hK _ _ ?_
        exact ⟨_, _, _, _, _, _, _, _, _, _, _, _, _, _, _, _, _, _, _, _, _, _, _, _, _, _, _, _, _, _, _, rfl, F0X.out, F1X.out, F2X.out, F3X.out, F4X.out, F5X.out, F6X.out, F7X.out, F8X.out, F9X.out, F10X.out, F12X.out, F13X.out, F14X.out, F15X.out, F16X.out, fun _ => rfl, F18X.out, F19X.out, F20X.out, F21X.out, F22X.out, F23X.out, F24X.out, F25X.out, F26X.out, F27X.out, F28X.out, F29X.out, F30X.out, U30X.out, QBX.out.trans (hb1.mono QBX.out.size), (hb1.block z (Array.getElem?_eq_some_iff.1 QZX.out).1).trans QZX.out, fun h => (G11X.out h).lo hb1⟩
      · obtain rfl := Option.some.inj ho
        have l17 := hd ⟨17, .data⟩ (by simp) rfl
        have l14 := hd ⟨14, .guard⟩ (by simp) rfl
        obtain rfl := f17 l17
        obtain rfl := f14 l14
        refine wpOp_step rfl fun K hK => ?_
        have F0X := Lib.hid f0
        have F1X := Lib.hid f1
        have F2X := Lib.hid f2
        have F3X := Lib.hid f3
        have F4X := Lib.hid f4
        have F5X := Lib.hid f5
        have F6X := Lib.hid f6
        have F7X := Lib.hid f7
        have F8X := Lib.hid f8
        have F9X := Lib.hid f9
        have F10X := Lib.hid f10
        have F12X := Lib.hid f12
        have F13X := Lib.hid f13
        have F14X := Lib.hid f14
        have F15X := Lib.hid f15
        have F16X := Lib.hid f16
        have F17X := Lib.hid f17
        have F18X := Lib.hid f18
        have F19X := Lib.hid f19
        have F20X := Lib.hid f20
        have F21X := Lib.hid f21
        have F22X := Lib.hid f22
        have F23X := Lib.hid f23
        have F24X := Lib.hid f24
        have F25X := Lib.hid f25
        have F26X := Lib.hid f26
        have F27X := Lib.hid f27
        have F28X := Lib.hid f28
        have F29X := Lib.hid f29
        have F30X := Lib.hid f30
        have U30X := Lib.hid u30
        have QBX := Lib.hid qb
        have QZX := Lib.hid qz
        have G11X := Lib.hid g11
        clear f0 f1 f2 f3 f4 f5 f6 f7 f8 f9 f10 f12 f13 f14 f15 f16 f17 f18 f19 f20 f21 f22 f23 f24 f25 f26 f27 f28 f29 f30 u30 qb qz g11 hd ho hL l17 l14
        go_simp
        refine hK _ _ ?_
        exact ⟨_, _, _, _, _, _, _, _, _, _, _, _, _, _, _, _, _, _, _, _, _, _, _, _, _, _, _, _, _, _, _, rfl, F0X.out, F1X.out, F2X.out, F3X.out, F4X.out, F5X.out, F6X.out, F7X.out, F8X.out, F9X.out, F10X.out, F12X.out, F13X.out, F14X.out, F15X.out, F16X.out, F17X.out, fun _ => rfl, F19X.out, F20X.out, F21X.out, F22X.out, F23X.out, F24X.out, F25X.out, F26X.out, F27X.out, F28X.out, F29X.out, F30X.out, U30X.out, QBX.out, QZX.out, G11X.out⟩
      · obtain rfl := Option.some.inj ho
        have l14 := hd ⟨14, .data⟩ (by simp) rfl
        have l18 := hd ⟨18, .data⟩ (by simp) rfl
        obtain rfl := f14 l14
        obtain rfl := f18 l18
        refine wpOp_step rfl fun K hK => ?_
        have F0X := Lib.hid f0
        have F1X := Lib.hid f1
        have F2X := Lib.hid f2
        have F3X := Lib.hid f3
        have F4X := Lib.hid f4
        have F5X := Lib.hid f5
        have F6X := Lib.hid f6
        have F7X := Lib.hid f7
        have F8X := Lib.hid f8
        have F9X := Lib.hid f9
        have F10X := Lib.hid f10
        have F12X := Lib.hid f12
        have F13X := Lib.hid f13
        have F14X := Lib.hid f14
        have F15X := Lib.hid f15
        have F16X := Lib.hid f16
        have F17X := Lib.hid f17
        have F18X := Lib.hid f18
        have F19X := Lib.hid f19
        have F20X := Lib.hid f20
        have F21X := Lib.hid f21
        have F22X := Lib.hid f22
        have F23X := Lib.hid f23
        have F24X := Lib.hid f24
        have F25X := Lib.hid f25
        have F26X := Lib.hid f26
        have F27X := Lib.hid f27
        have F28X := Lib.hid f28
        have F29X := Lib.hid f29
        have F30X := Lib.hid f30
        have U30X := Lib.hid u30
        have QBX := Lib.hid qb
        have QZX := Lib.hid qz
        have G11X := Lib.hid g11
        clear f0 f1 f2 f3 f4 f5 f6 f7 f8 f9 f10 f12 f13 f14 f15 f16 f17 f18 f19 f20 f21 f22 f23 f24 f25 f26 f27 f28 f29 f30 u30 qb qz g11 hd ho hL l14 l18
        go_simp
        refine hK _ _ ?_
        exact ⟨_, _, _, _, _, _, _, _, _, _, _, _, _, _, _, _, _, _, _, _, _, _, _, _, _, _, _, _, _, _, _, rfl, F0X.out, F1X.out, F2X.out, F3X.out, F4X.out, F5X.out, F6X.out, F7X.out, F8X.out, F9X.out, F10X.out, F12X.out, F13X.out, F14X.out, F15X.out, F16X.out, F17X.out, F18X.out, fun _ => rfl, F20X.out, F21X.out, F22X.out, F23X.out, F24X.out, F25X.out, F26X.out, F27X.out, F28X.out, F29X.out, F30X.out, U30X.out, QBX.out, QZX.out, G11X.out⟩
      · obtain rfl := Option.some.inj ho
        have l19 := hd ⟨19, .data⟩ (by simp) rfl
        obtain rfl := f19 l19
        refine wpOp_step rfl fun K hK => ?_
        have F0X := Lib.hid f0
        have F1X := Lib.hid f1
        have F2X := Lib.hid f2
        have F3X := Lib.hid f3
        have F4X := Lib.hid f4
        have F5X := Lib.hid f5
        have F6X := Lib.hid f6
        have F7X := Lib.hid f7
        have F8X := Lib.hid f8
        have F9X := Lib.hid f9
        have F10X := Lib.hid f10
        have F12X := Lib.hid f12
        have F13X := Lib.hid f13
        have F14X := Lib.hid f14
        have F15X := Lib.hid f15
        have F16X := Lib.hid f16
        have F17X := Lib.hid f17
        have F18X := Lib.hid f18
        have F19X := Lib.hid f19
        have F20X := Lib.hid f20
        have F21X := Lib.hid f21
        have F22X := Lib.hid f22
        have F23X := Lib.hid f23
        have F24X := Lib.hid f24
        have F25X := Lib.hid f25
        have F26X := Lib.hid f26
        have F27X := Lib.hid f27
        have F28X := Lib.hid f28
        have F29X := Lib.hid f29
        have F30X := Lib.hid f30
        have U30X := Lib.hid u30
        have QBX := Lib.hid qb
        have QZX := Lib.hid qz
        have G11X := Lib.hid g11
        clear f0 f1 f2 f3 f4 f5 f6 f7 f8 f9 f10 f12 f13 f14 f15 f16 f17 f18 f19 f20 f21 f22 f23 f24 f25 f26 f27 f28 f29 f30 u30 qb qz g11 hd ho hL l19
        go_simp
        refine hK _ _ ?_
        exact ⟨_, _, _, _, _, _, _, _, _, _, _, _, _, _, _, _, _, _, _, _, _, _, _, _, _, _, _, _, _, _, _, rfl, F0X.out, F1X.out, F2X.out, F3X.out, F4X.out, F5X.out, F6X.out, F7X.out, F8X.out, F9X.out, F10X.out, F12X.out, F13X.out, F14X.out, F15X.out, F16X.out, F17X.out, F18X.out, F19X.out, fun _ => rfl, F21X.out, F22X.out, F23X.out, F24X.out, F25X.out, F26X.out, F27X.out, F28X.out, F29X.out, F30X.out, U30X.out, QBX.out, QZX.out, G11X.out⟩
      · obtain rfl := Option.some.inj ho
        have l20 := hd ⟨20, .guard⟩ (by simp) rfl
        obtain rfl := f20 l20
        refine wpOp_step rfl fun K hK => ?_
        have F0X := Lib.hid f0
        have F1X := Lib.hid f1
        have F2X := Lib.hid f2
        have F3X := Lib.hid f3
        have F4X := Lib.hid f4
        have F5X := Lib.hid f5
        have F6X := Lib.hid f6
        have F7X := Lib.hid f7
        have F8X := Lib.hid f8
        have F9X := Lib.hid f9
        have F10X := Lib.hid f10
        have F12X := Lib.hid f12
        have F13X := Lib.hid f13
        have F14X := Lib.hid f14
        have F15X := Lib.hid f15
        have F16X := Lib.hid f16
        have F17X := Lib.hid f17
        have F18X := Lib.hid f18
        have F19X := Lib.hid f19
        have F20X := Lib.hid f20
        have F21X := Lib.hid f21
        have F22X := Lib.hid f22
        have F23X := Lib.hid f23
        have F24X := Lib.hid f24
        have F25X := Lib.hid f25
        have F26X := Lib.hid f26
        have F27X := Lib.hid f27
        have F28X := Lib.hid f28
        have F29X := Lib.hid f29
        have F30X := Lib.hid f30
        have U30X := Lib.hid u30
        have QBX := Lib.hid qb
        have QZX := Lib.hid qz
        have G11X := Lib.hid g11
        clear f0 f1 f2 f3 f4 f5 f6 f7 f8 f9 f10 f12 f13 f14 f15 f16 f17 f18 f19 f20 f21 f22 f23 f24 f25 f26 f27 f28 f29 f30 u30 qb qz g11 hd ho hL l20
        go_simp
        refine hK _ _ ?_
        exact ⟨_, _, _, _, _, _, _, _, _, _, _, _, _, _, _, _, _, _, _, _, _, _, _, _, _, _, _, _, _, _, _, rfl, F0X.out, F1X.out, F2X.out, F3X.out, F4X.out, F5X.out, F6X.out, F7X.out, F8X.out, F9X.out, F10X.out, F12X.out, F13X.out, F14X.out, F15X.out, F16X.out, F17X.out, F18X.out, F19X.out, F20X.out, fun _ => rfl, F22X.out, F23X.out, F24X.out, F25X.out, F26X.out, F27X.out, F28X.out, F29X.out, F30X.out, U30X.out, QBX.out, QZX.out, G11X.out⟩
      · obtain rfl := Option.some.inj ho
        have l21 := hd ⟨21, .data⟩ (by simp) rfl
        have l20 := hd ⟨20, .guard⟩ (by simp) rfl
        obtain rfl := f21 l21
        obtain rfl := f20 l20
        refine wpOp_step rfl fun K hK => ?_
        have F0X := Lib.hid f0
        have F1X := Lib.hid f1
        have F2X := Lib.hid f2
        have F3X := Lib.hid f3
        have F4X := Lib.hid f4
        have F5X := Lib.hid f5
        have F6X := Lib.hid f6
        have F7X := Lib.hid f7
        have F8X := Lib.hid f8
        have F9X := Lib.hid f9
        have F10X := Lib.hid f10
        have F12X := Lib.hid f12
        have F13X := Lib.hid f13
        have F14X := Lib.hid f14
        have F15X := Lib.hid f15
        have F16X := Lib.hid f16
        have F17X := Lib.hid f17
        have F18X := Lib.hid f18
        have F19X := Lib.hid f19
        have F20X := Lib.hid f20
        have F21X := Lib.hid f21
        have F22X := Lib.hid f22
        have F23X := Lib.hid f23
        have F24X := Lib.hid f24
        have F25X := Lib.hid f25
        have F26X := Lib.hid f26
        have F27X := Lib.hid f27
        have F28X := Lib.hid f28
        have F29X := Lib.hid f29
        have F30X := Lib.hid f30
        have U30X := Lib.hid u30
        have QBX := Lib.hid qb
        have QZX := Lib.hid qz
        have G11X := Lib.hid g11
        clear f0 f1 f2 f3 f4 f5 f6 f7 f8 f9 f10 f12 f13 f14 f15 f16 f17 f18 f19 f20 f21 f22 f23 f24 f25 f26 f27 f28 f29 f30 u30 qb qz g11 hd ho hL l21 l20
        go_simp
        refine hK _ _ ?_
        exact ⟨_, _, _, _, _, _, _, _, _, _, _, _, _, _, _, _, _, _, _, _, _, _, _, _, _, _, _, _, _, _, _, rfl, F0X.out, F1X.out, F2X.out, F3X.out, F4X.out, F5X.out, F6X.out, F7X.out, F8X.out, F9X.out, F10X.out, F12X.out, F13X.out, F14X.out, F15X.out, F16X.out, F17X.out, F18X.out, F19X.out, F20X.out, F21X.out, fun _ => rfl, F23X.out, F24X.out, F25X.out, F26X.out, F27X.out, F28X.out, F29X.out, F30X.out, U30X.out, QBX.out, QZX.out, G11X.out⟩
      · obtain rfl := Option.some.inj ho
        have l22 := hd ⟨22, .data⟩ (by simp) rfl
        have l20 := hd ⟨20, .guard⟩ (by simp) rfl
        obtain rfl := f22 l22
        obtain rfl := f20 l20
        refine wpOp_step rfl fun K hK => ?_
        have F0X := Lib.hid f0
        have F1X := Lib.hid f1
        have F2X := Lib.hid f2
        have F3X := Lib.hid f3
        have F4X := Lib.hid f4
        have F5X := Lib.hid f5
        have F6X := Lib.hid f6
        have F7X := Lib.hid f7
        have F8X := Lib.hid f8
        have F9X := Lib.hid f9
        have F10X := Lib.hid f10
        have F12X := Lib.hid f12
        have F13X := Lib.hid f13
        have F14X := Lib.hid f14
        have F15X := Lib.hid f15
        have F16X := Lib.hid f16
        have F17X := Lib.hid f17
        have F18X := Lib.hid f18
        have F19X := Lib.hid f19
        have F20X := Lib.hid f20
        have F21X := Lib.hid f21
        have F22X := Lib.hid f22
        have F23X := Lib.hid f23
        have F24X := Lib.hid f24
        have F25X := Lib.hid f25
        have F26X := Lib.hid f26
        have F27X := Lib.hid f27
        have F28X := Lib.hid f28
        have F29X := Lib.hid f29
        have F30X := Lib.hid f30
        have U30X := Lib.hid u30
        have QBX := Lib.hid qb
        have QZX := Lib.hid qz
        have G11X := Lib.hid g11
        clear f0 f1 f2 f3 f4 f5 f6 f7 f8 f9 f10 f12 f13 f14 f15 f16 f17 f18 f19 f20 f21 f22 f23 f24 f25 f26 f27 f28 f29 f30 u30 qb qz g11 hd ho hL l22 l20
        go_simp
        refine hK _ _ ?_
        exact ⟨_, _, _, _, _, _, _, _, _, _, _, _, _, _, _, _, _, _, _, _, _, _, _, _, _, _, _, _, _, _, _, rfl, F0X.out, F1X.out, F2X.out, F3X.out, F4X.out, F5X.out, F6X.out, F7X.out, F8X.out, F9X.out, F10X.out, F12X.out, F13X.out, F14X.out, F15X.out, F16X.out, F17X.out, F18X.out, F19X.out, F20X.out, F21X.out, F22X.out, fun _ => rfl, F24X.out, F25X.out, F26X.out, F27X.out, F28X.out, F29X.out, F30X.out, U30X.out, QBX.out, QZX.out, G11X.out⟩
      · obtain rfl := Option.some.inj ho
        have l20 := hd ⟨20, .data⟩ (by simp) rfl
        have l23 := hd ⟨23, .data⟩ (by simp) rfl
        obtain rfl := f20 l20
        obtain rfl := f23 l23
        refine wpOp_step rfl fun K hK => ?_
        have F0X := Lib.hid f0
        have F1X := Lib.hid f1
        have F2X := Lib.hid f2
        have F3X := Lib.hid f3
        have F4X := Lib.hid f4
        have F5X := Lib.hid f5
        have F6X := Lib.hid f6
        have F7X := Lib.hid f7
        have F8X := Lib.hid f8
        have F9X := Lib.hid f9
        have F10X := Lib.hid f10
        have F12X := Lib.hid f12
        have F13X := Lib.hid f13
        have F14X := Lib.hid f14
        have F15X := Lib.hid f15
        have F16X := Lib.hid f16
        have F17X := Lib.hid f17
        have F18X := Lib.hid f18
        have F19X := Lib.hid f19
        have F20X := Lib.hid f20
        have F21X := Lib.hid f21
        have F22X := Lib.hid f22
        have F23X := Lib.hid f23
        have F24X := Lib.hid f24
        have F25X := Lib.hid f25
        have F26X := Lib.hid f26
        have F27X := Lib.hid f27
        have F28X := Lib.hid f28
        have F29X := Lib.hid f29
        have F30X := Lib.hid f30
        have U30X := Lib.hid u30
        have QBX := Lib.hid qb
        have QZX := Lib.hid qz
        have G11X := Lib.hid g11
        clear f0 f1 f2 f3 f4 f5 f6 f7 f8 f9 f10 f12 f13 f14 f15 f16 f17 f18 f19 f20 f21 f22 f23 f24 f25 f26 f27 f28 f29 f30 u30 qb qz g11 hd ho hL l20 l23
        go_simp
        refine hK _ _ ?_
        exact ⟨_, _, _, _, _, _, _, _, _, _, _, _, _, _, _, _, _, _, _, _, _, _, _, _, _, _, _, _, _, _, _, rfl, F0X.out, F1X.out, F2X.out, F3X.out, F4X.out, F5X.out, F6X.out, F7X.out, F8X.out, F9X.out, F10X.out, F12X.out, F13X.out, F14X.out, F15X.out, F16X.out, F17X.out, F18X.out, F19X.out, F20X.out, F21X.out, F22X.out, F23X.out, fun _ => rfl, F25X.out, F26X.out, F27X.out, F28X.out, F29X.out, F30X.out, U30X.out, QBX.out, QZX.out, G11X.out⟩
      · obtain rfl := Option.some.inj ho
        have l24 := hd ⟨24, .data⟩ (by simp) rfl
        obtain rfl := f24 l24
        refine wpOp_step rfl fun K hK => ?_
        have F0X := Lib.hid f0
        have F1X := Lib.hid f1
        have F2X := Lib.hid f2
        have F3X := Lib.hid f3
        have F4X := Lib.hid f4
        have F5X := Lib.hid f5
        have F6X := Lib.hid f6
        have F7X := Lib.hid f7
        have F8X := Lib.hid f8
        have F9X := Lib.hid f9
        have F10X := Lib.hid f10
        have F12X := Lib.hid f12
        have F13X := Lib.hid f13
        have F14X := Lib.hid f14
        have F15X := Lib.hid f15
        have F16X := Lib.hid f16
        have F17X := Lib.hid f17
        have F18X := Lib.hid f18
        have F19X := Lib.hid f19
        have F20X := Lib.hid f20
        have F21X := Lib.hid f21
        have F22X := Lib.hid f22
        have F23X := Lib.hid f23
        have F24X := Lib.hid f24
        have F25X := Lib.hid f25
        have F26X := Lib.hid f26
        have F27X := Lib.hid f27
        have F28X := Lib.hid f28
        have F29X := Lib.hid f29
        have F30X := Lib.hid f30
        have U30X := Lib.hid u30
        have QBX := Lib.hid qb
        have QZX := Lib.hid qz
        have G11X := Lib.hid g11
        clear f0 f1 f2 f3 f4 f5 f6 f7 f8 f9 f10 f12 f13 f14 f15 f16 f17 f18 f19 f20 f21 f22 f23 f24 f25 f26 f27 f28 f29 f30 u30 qb qz g11 hd ho hL l24
        go_simp
        refine hK _ _ ?_
        exact ⟨_, _, _, _, _, _, _, _, _, _, _, _, _, _, _, _, _, _, _, _, _, _, _, _, _, _, _, _, _, _, _, rfl, F0X.out, F1X.out, F2X.out, F3X.out, F4X.out, F5X.out, F6X.out, F7X.out, F8X.out, F9X.out, F10X.out, F12X.out, F13X.out, F14X.out, F15X.out, F16X.out, F17X.out, F18X.out, F19X.out, F20X.out, F21X.out, F22X.out, F23X.out, F24X.out, fun _ => rfl, F26X.out, F27X.out, F28X.out, F29X.out, F30X.out, U30X.out, QBX.out, QZX.out, G11X.out⟩
      · obtain rfl := Option.some.inj ho
        have l25 := hd ⟨25, .guard⟩ (by simp) rfl
        obtain rfl := f25 l25
        refine wpOp_step rfl fun K hK => ?_
        have F0X := Lib.hid f0
        have F1X := Lib.hid f1
        have F2X := Lib.hid f2
        have F3X := Lib.hid f3
        have F4X := Lib.hid f4
        have F5X := Lib.hid f5
        have F6X := Lib.hid f6
        have F7X := Lib.hid f7
        have F8X := Lib.hid f8
        have F9X := Lib.hid f9
        have F10X := Lib.hid f10
        have F12X := Lib.hid f12
        have F13X := Lib.hid f13
        have F14X := Lib.hid f14
        have F15X := Lib.hid f15
        have F16X := Lib.hid f16
        have F17X := Lib.hid f17
        have F18X := Lib.hid f18
        have F19X := Lib.hid f19
        have F20X := Lib.hid f20
        have F21X := Lib.hid f21
        have F22X := Lib.hid f22
        have F23X := Lib.hid f23
        have F24X := Lib.hid f24
        have F25X := Lib.hid f25
        have F26X := Lib.hid f26
        have F27X := Lib.hid f27
        have F28X := Lib.hid f28
        have F29X := Lib.hid f29
        have F30X := Lib.hid f30
        have U30X := Lib.hid u30
        have QBX := Lib.hid qb
        have QZX := Lib.hid qz
        have G11X := Lib.hid g11
        clear f0 f1 f2 f3 f4 f5 f6 f7 f8 f9 f10 f12 f13 f14 f15 f16 f17 f18 f19 f20 f21 f22 f23 f24 f25 f26 f27 f28 f29 f30 u30 qb qz g11 hd ho hL l25
        go_simp
        refine hK _ _ ?_
        exact ⟨_, _, _, _, _, _, _, _, _, _, _, _, _, _, _, _, _, _, _, _, _, _, _, _, _, _, _, _, _, _, _, rfl, F0X.out, F1X.out, F2X.out, F3X.out, F4X.out, F5X.out, F6X.out, F7X.out, F8X.out, F9X.out, F10X.out, F12X.out, F13X.out, F14X.out, F15X.out, F16X.out, F17X.out, F18X.out, F19X.out, F20X.out, F21X.out, F22X.out, F23X.out, F24X.out, F25X.out, fun _ => rfl, F27X.out, F28X.out, F29X.out, F30X.out, U30X.out, QBX.out, QZX.out, G11X.out⟩
      · obtain rfl := Option.some.inj ho
        have l26 := hd ⟨26, .data⟩ (by simp) rfl
        have l25 := hd ⟨25, .guard⟩ (by simp) rfl
        obtain rfl := f26 l26
        obtain rfl := f25 l25
        have HC := Lib.hid (HLN.out W qb)
        refine wpOp_step rfl fun K hK => ?_
        have F0X := Lib.hid f0
        have F1X := Lib.hid f1
        have F2X := Lib.hid f2
        have F3X := Lib.hid f3
        have F4X := Lib.hid f4
        have F5X := Lib.hid f5
        have F6X := Lib.hid f6
        have F7X := Lib.hid f7
        have F8X := Lib.hid f8
        have F9X := Lib.hid f9
        have F10X := Lib.hid f10
        have F12X := Lib.hid f12
        have F13X := Lib.hid f13
        have F14X := Lib.hid f14
        have F15X := Lib.hid f15
        have F16X := Lib.hid f16
        have F17X := Lib.hid f17
        have F18X := Lib.hid f18
        have F19X := Lib.hid f19
        have F20X := Lib.hid f20
        have F21X := Lib.hid f21
        have F22X := Lib.hid f22
        have F23X := Lib.hid f23
        have F24X := Lib.hid f24
        have F25X := Lib.hid f25
        have F26X := Lib.hid f26
        have F27X := Lib.hid f27
        have F28X := Lib.hid f28
        have F29X := Lib.hid f29
        have F30X := Lib.hid f30
        have U30X := Lib.hid u30
        have QBX := Lib.hid qb
        have QZX := Lib.hid qz
        have G11X := Lib.hid g11
        clear f0 f1 f2 f3 f4 f5 f6 f7 f8 f9 f10 f12 f13 f14 f15 f16 f17 f18 f19 f20 f21 f22 f23 f24 f25 f26 f27 f28 f29 f30 u30 qb qz g11 hd ho hL l26 l25
        go_simp
        refine HC.out.mono ?_
        rintro _ w1 ⟨rfl, hb1⟩
        refine hK _ _ ?_
        exact ⟨_, _, _, _, _, _, _, _, _, _, _, _, _, _, _, _, _, _, _, _, _, _, _, _, _, _, _, _, _, _, _, rfl, F0X.out, F1X.out, F2X.out, F3X.out, F4X.out, F5X.out, F6X.out, F7X.out, F8X.out, F9X.out, F10X.out, F12X.out, F13X.out, F14X.out, F15X.out, F16X.out, F17X.out, F18X.out, F19X.out, F20X.out, F21X.out, F22X.out, F23X.out, F24X.out, F25X.out, F26X.out, fun _ => rfl, F28X.out, F29X.out, F30X.out, U30X.out, QBX.out.trans (hb1.mono QBX.out.size), (hb1.block z (Array.getElem?_eq_some_iff.1 QZX.out).1).trans QZX.out, fun h => (G11X.out h).lo hb1⟩
      · obtain rfl := Option.some.inj ho
        have l27 := hd ⟨27, .data⟩ (by simp) rfl
        have l25 := hd ⟨25, .guard⟩ (by simp) rfl
        obtain rfl := f27 l27
        obtain rfl := f25 l25
        refine wpOp_step rfl fun K hK => ?_
        have F0X := Lib.hid f0
        have F1X := Lib.hid f1
        have F2X := Lib.hid f2
        have F3X := Lib.hid f3
        have F4X := Lib.hid f4
        have F5X := Lib.hid f5
        have F6X := Lib.hid f6
        have F7X := Lib.hid f7
        have F8X := Lib.hid f8
        have F9X := Lib.hid f9
        have F10X := Lib.hid f10
        have F12X := Lib.hid f12
        have F13X := Lib.hid f13
        have F14X := Lib.hid f14
        have F15X := Lib.hid f15
        have F16X := Lib.hid f16
        have F17X := Lib.hid f17
        have F18X := Lib.hid f18
        have F19X := Lib.hid f19
        have F20X := Lib.hid f20
        have F21X := Lib.hid f21
        have F22X := Lib.hid f22
        have F23X := Lib.hid f23
        have F24X := Lib.hid f24
        have F25X := Lib.hid f25
        have F26X := Lib.hid f26
        have F27X := Lib.hid f27
        have F28X := Lib.hid f28
        have F29X := Lib.hid f29
        have F30X := Lib.hid f30
        have U30X := Lib.hid u30
        have QBX := Lib.hid qb
        have QZX := Lib.hid qz
        have G11X := Lib.hid g11
        clear f0 f1 f2 f3 f4 f5 f6 f7 f8 f9 f10 f12 f13 f14 f15 f16 f17 f18 f19 f20 f21 f22 f23 f24 f25 f26 f27 f28 f29 f30 u30 qb qz g11 hd ho hL l27 l25
        go_simp
        refine hK _ _ ?_
        exact ⟨_, _, _, _, _, _, _, _, _, _, _, _, _, _, _, _, _, _, _, _, _, _, _, _, _, _, _, _, _, _, _, rfl, F0X.out, F1X.out, F2X.out, F3X.out, F4X.out, F5X.out, F6X.out, F7X.out, F8X.out, F9X.out, F10X.out, F12X.out, F13X.out, F14X.out, F15X.out, F16X.out, F17X.out, F18X.out, F19X.out, F20X.out, F21X.out, F22X.out, F23X.out, F24X.out, F25X.out, F26X.out, F27X.out, fun _ => rfl, F29X.out, F30X.out, U30X.out, QBX.out, QZX.out, G11X.out⟩
      · obtain rfl := Option.some.inj ho
        have l25 := hd ⟨25, .data⟩ (by simp) rfl
        have l28 := hd ⟨28, .data⟩ (by simp) rfl
        obtain rfl := f25 l25
        obtain rfl := f28 l28
        refine wpOp_step rfl fun K hK => ?_
        have F0X := Lib.hid f0
        have F1X := Lib.hid f1
        have F2X := Lib.hid f2
        have F3X := Lib.hid f3
        have F4X := Lib.hid f4
        have F5X := Lib.hid f5
        have F6X := Lib.hid f6
        have F7X := Lib.hid f7
        have F8X := Lib.hid f8
        have F9X := Lib.hid f9
        have F10X := Lib.hid f10
        have F12X := Lib.hid f12
        have F13X := Lib.hid f13
        have F14X := Lib.hid f14
        have F15X := Lib.hid f15
        have F16X := Lib.hid f16
        have F17X := Lib.hid f17
        have F18X := Lib.hid f18
        have F19X := Lib.hid f19
        have F20X := Lib.hid f20
        have F21X := Lib.hid f21
        have F22X := Lib.hid f22
        have F23X := Lib.hid f23
        have F24X := Lib.hid f24
        have F25X := Lib.hid f25
        have F26X := Lib.hid f26
        have F27X := Lib.hid f27
        have F28X := Lib.hid f28
        have F29X := Lib.hid f29
        have F30X := Lib.hid f30
        have U30X := Lib.hid u30
        have QBX := Lib.hid qb
        have QZX := Lib.hid qz
        have G11X := Lib.hid g11
        clear f0 f1 f2 f3 f4 f5 f6 f7 f8 f9 f10 f12 f13 f14 f15 f16 f17 f18 f19 f20 f21 f22 f23 f24 f25 f26 f27 f28 f29 f30 u30 qb qz g11 hd ho hL l25 l28
        go_simp
        refine hK _ _ ?_
        exact ⟨_, _, _, _, _, _, _, _, _, _, _, _, _, _, _, _, _, _, _, _, _, _, _, _, _, _, _, _, _, _, _, rfl, F0X.out, F1X.out, F2X.out, F3X.out, F4X.out, F5X.out, F6X.out, F7X.out, F8X.out, F9X.out, F10X.out, F12X.out, F13X.out, F14X.out, F15X.out, F16X.out, F17X.out, F18X.out, F19X.out, F20X.out, F21X.out, F22X.out, F23X.out, F24X.out, F25X.out, F26X.out, F27X.out, F28X.out, fun _ => rfl, F30X.out, U30X.out, QBX.out, QZX.out, G11X.out⟩
      · obtain rfl := Option.some.inj ho
        have l29 := hd ⟨29, .data⟩ (by simp) rfl
        obtain rfl := f29 l29
        refine wpOp_step rfl fun K hK => ?_
        have F0X := Lib.hid f0
        have F1X := Lib.hid f1
        have F2X := Lib.hid f2
        have F3X := Lib.hid f3
        have F4X := Lib.hid f4
        have F5X := Lib.hid f5
        have F6X := Lib.hid f6
        have F7X := Lib.hid f7
        have F8X := Lib.hid f8
        have F9X := Lib.hid f9
        have F10X := Lib.hid f10
        have F12X := Lib.hid f12
        have F13X := Lib.hid f13
        have F14X := Lib.hid f14
        have F15X := Lib.hid f15
        have F16X := Lib.hid f16
        have F17X := Lib.hid f17
        have F18X := Lib.hid f18
        have F19X := Lib.hid f19
        have F20X := Lib.hid f20
        have F21X := Lib.hid f21
        have F22X := Lib.hid f22
        have F23X := Lib.hid f23
        have F24X := Lib.hid f24
        have F25X := Lib.hid f25
        have F26X := Lib.hid f26
        have F27X := Lib.hid f27
        have F28X := Lib.hid f28
        have F29X := Lib.hid f29
        have F30X := Lib.hid f30
        have U30X := Lib.hid u30
        have QBX := Lib.hid qb
        have QZX := Lib.hid qz
        have G11X := Lib.hid g11
        clear f0 f1 f2 f3 f4 f5 f6 f7 f8 f9 f10 f12 f13 f14 f15 f16 f17 f18 f19 f20 f21 f22 f23 f24 f25 f26 f27 f28 f29 f30 u30 qb qz g11 hd ho hL l29
        go_simp
        refine hK _ _ ?_
        exact ⟨_, _, _, _, _, _, _, _, _, _, _, _, _, _, _, _, _, _, _, _, _, _, _, _, _, _, _, _, _, _, _, rfl, F0X.out, F1X.out, F2X.out, F3X.out, F4X.out, F5X.out, F6X.out, F7X.out, F8X.out, F9X.out, F10X.out, F12X.out, F13X.out, F14X.out, F15X.out, F16X.out, F17X.out, F18X.out, F19X.out, F20X.out, F21X.out, F22X.out, F23X.out, F24X.out, F25X.out, F26X.out, F27X.out, F28X.out, F29X.out, fun _ => rfl, nofun, QBX.out, QZX.out, G11X.out⟩
      · simp at ho
    · rintro L _ W ⟨t23, t24, t25, t26, t27, t28, t29, t30, t31, t32, t33, t34, t35, t36, t37, t38, t39, t40, t41, t42, t43, t44, t45, t46, t47, t48, t49, t50, t51, t52, t0, rfl, f0, f1, f2, f3, f4, f5, f6, f7, f8, f9, f10, f12, f13, f14, f15, f16, f17, f18, f19, f20, f21, f22, f23, f24, f25, f26, f27, f28, f29, f30, u30, qb, qz, g11⟩ hall
      obtain rfl := f0 (hall 0 (by decide))
      obtain rfl := f1 (hall 1 (by decide))
      obtain rfl := f2 (hall 2 (by decide))
      obtain rfl := f3 (hall 3 (by decide))
      obtain rfl := f4 (hall 4 (by decide))
      obtain rfl := f5 (hall 5 (by decide))
      obtain rfl := f6 (hall 6 (by decide))
      obtain rfl := f7 (hall 7 (by decide))
      obtain rfl := f8 (hall 8 (by decide))
      obtain rfl := f9 (hall 9 (by decide))
      obtain rfl := f10 (hall 10 (by decide))
      obtain rfl := f12 (hall 12 (by decide))
      obtain rfl := f13 (hall 13 (by decide))
      obtain rfl := f14 (hall 14 (by decide))
      obtain rfl := f15 (hall 15 (by decide))
      obtain rfl := f16 (hall 16 (by decide))
      obtain rfl := f17 (hall 17 (by decide))
      obtain rfl := f18 (hall 18 (by decide))
      obtain rfl := f19 (hall 19 (by decide))
      obtain rfl := f20 (hall 20 (by decide))
      obtain rfl := f21 (hall 21 (by decide))
      obtain rfl := f22 (hall 22 (by decide))
      obtain rfl := f23 (hall 23 (by decide))
      obtain rfl := f24 (hall 24 (by decide))
      obtain rfl := f25 (hall 25 (by decide))
      obtain rfl := f26 (hall 26 (by decide))
      obtain rfl := f27 (hall 27 (by decide))
      obtain rfl := f28 (hall 28 (by decide))
      obtain rfl := f29 (hall 29 (by decide))
      obtain rfl := f30 (hall 30 (by decide))
      have HQB := Lib.hid qb
      clear qb qz g11 hall HKX HCM HCO HLN HG8 HB78
      go_wp2
      go_ret
      exact ⟨rfl, HB7.out.trans (HQB.out.mono HB7.out.size)⟩
end Go.Proofs.YtiidooponlbnmaaDoor.Kn
