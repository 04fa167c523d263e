/- own: a principal that shares no list. (Laid with NS=1; written by wip/tools/gen/pow3.py.) -/
import Derived.Test.YtehmfkcihieecaaPoW2
import Derived.Test.YtehmfkcihieecaaTmInv
namespace Go.Proofs.Ytehmfkcihieecaa.Po
open Go.RowKit
open Te Te.Tt
open Go (Lit DataW MemPlace keyOf maxLen)

set_option maxHeartbeats 4000000 in
set_option maxRecDepth 100000 in
theorem own_any (p : Pr) (S : Nat → Prop) (v : Value) (w : World) (hv : PV w S p v) (hS : ∀ b, S b → b < w.heap.size) (k1 : p.al.length ≤ 1000) (k2 : p.ac.length ≤ 1000) (k3 : p.gr.length ≤ 1000) :
    Calls Try.prog 27 #[v] w fun e w' => ∃ s, e = .returned (pval p s) ∧ POwn w' p s ∧ (∀ k, Bl s k → w.heap.size ≤ k) ∧ Below w.heap.size w w' := by
  obtain ⟨A, a, C, c, G, g, rfl, h1, h2, h3, l1, l2⟩ := hv
  have HC1 : Hid (∀ W, Below w.heap.size w W → Calls Try.prog 44 #[.slice A p.al.length a] W fun e w' => ∃ v', e = .returned v' ∧ OwnS w' v' p.al ∧ (∀ k, v'.ownBlock = some k → W.heap.size ≤ k) ∧ Below W.heap.size W w') := fun W hW => CloneS_any p.al A a S W (h1.keep (fun _ h => h) (fun b h => hW.block b (hS b h))) k1
  have HC2 : Hid (∀ W, Below w.heap.size w W → Calls Try.prog 44 #[.slice C p.ac.length c] W fun e w' => ∃ v', e = .returned v' ∧ OwnS w' v' p.ac ∧ (∀ k, v'.ownBlock = some k → W.heap.size ≤ k) ∧ Below W.heap.size W w') := fun W hW => CloneS_any p.ac C c S W (h2.keep (fun _ h => h) (fun b h => hW.block b (hS b h))) k2
  have HC3 : Hid (∀ W, Below w.heap.size w W → Calls Try.prog 45 #[.slice G p.gr.length g] W fun e w' => ∃ v', e = .returned v' ∧ OwnI w' v' p.gr ∧ (∀ k, v'.ownBlock = some k → W.heap.size ≤ k) ∧ Below W.heap.size W w') := fun W hW => CloneI_any p.gr G g S W (h3.keep (fun _ h => h) (fun b h => hW.block b (hS b h))) k3
  clear h1 h2 h3 l1 l2 k1 k2 k3 hS
  obtain ⟨nm, ver, tr, se, al, ac, gr, li⟩ := p
  simp only at *
  obtain ⟨la, hla⟩ : ∃ x, x = al.length := ⟨_, rfl⟩
  obtain ⟨lc, hlc⟩ : ∃ x, x = ac.length := ⟨_, rfl⟩
  obtain ⟨lg, hlg⟩ : ∃ x, x = gr.length := ⟨_, rfl⟩
  rw [← hla] at HC1 ⊢
  rw [← hlc] at HC2 ⊢
  rw [← hlg] at HC3 ⊢
  obtain ⟨W0, hW⟩ : ∃ W0, W0 = (w.alloc (.cells #[.string ⟨⟨nm⟩⟩, .int .i64 ver, .bool tr, .bool se, .slice A la a, .slice C lc c, .slice G lg g, .int .i64 li] 32)).alloc (.cells #[.string ⟨#[]⟩, .int .i64 0, .bool false, .bool false, .slice none 0 0, .slice none 0 0, .slice none 0 0, .int .i64 0] 32) := ⟨_, rfl⟩
  obtain ⟨z, hz⟩ : ∃ z, z = w.heap.size := ⟨_, rfl⟩
  have hb : Below w.heap.size w W0 := by rw [hW]; exact ((Below.refl _ _).alloc (Nat.le_refl _) _).alloc (by simp) _
  have hsz : W0.heap.size = z + 1 + 1 := by rw [hW, hz]; simp
  have hg0 : W0.heap[z]? = some (.cells #[.string ⟨⟨nm⟩⟩, .int .i64 ver, .bool tr, .bool se, .slice A la a, .slice C lc c, .slice G lg g, .int .i64 li] 32 (0, 0)) := by
    rw [hW, hz, heap_alloc_old _ _ (by simp)]; exact heap_alloc_new _ _
  have hg1 : W0.heap[z + 1]? = some (.cells #[.string ⟨#[]⟩, .int .i64 0, .bool false, .bool false, .slice none 0 0, .slice none 0 0, .slice none 0 0, .int .i64 0] 32 (0, 0)) := by
    rw [hW, hz]
    have := heap_alloc_new (w.alloc (.cells #[.string ⟨⟨nm⟩⟩, .int .i64 ver, .bool tr, .bool se, .slice A la a, .slice C lc c, .slice G lg g, .int .i64 li] 32)) (.cells #[.string ⟨#[]⟩, .int .i64 0, .bool false, .bool false, .slice none 0 0, .slice none 0 0, .slice none 0 0, .int .i64 0] 32)
    rw [show (w.alloc (.cells #[.string ⟨⟨nm⟩⟩, .int .i64 ver, .bool tr, .bool se, .slice A la a, .slice C lc c, .slice G lg g, .int .i64 li] 32)).heap.size = w.heap.size + 1 by simp] at this
    exact this
  have HB0 := Lib.hid hb
  have HG0 := Lib.hid hg0
  have HG1 := Lib.hid hg1
  have HSZ := Lib.hid hsz
  have HW0 := Lib.hid hW
  have HZ := Lib.hid hz
  have HLA := Lib.hid hla
  have HLC := Lib.hid hlc
  have HLG := Lib.hid hlg
  clear hb hg0 hg1 hsz hW hz hla hlc hlg
  go_enter Try.func27, Try.ntmps27
  go_wp2_with fail
  rw [← HZ.out, ← HW0.out]
  refine wp_region_inv (by kernel_rfl) (fun L act W => ∃ t3 t4 t5 t6 t7 t8 t9 t10 t11 t12 t13 t14, act = { tmps := #[.agg #[.string ⟨⟨nm⟩⟩, .int .i64 ver, .bool tr, .bool se, .slice A la a, .slice C lc c, .slice G lg g, .int .i64 li], .pointer (some ⟨z, 0, none⟩), .pointer (some ⟨z + 1, 0, none⟩), t3, t4, t5, t6, t7, t8, t9, t10, t11, t12, t13, t14, undef], defers := [] } ∧ (L 0 = true → (.pointer (some ⟨z, 4, none⟩) : Value) = t3) ∧ (L 1 = true → (.slice A la a : Value) = t4) ∧ (L 3 = true → (.pointer (some ⟨z, 5, none⟩) : Value) = t6) ∧ (L 4 = true → (.slice C lc c : Value) = t7) ∧ (L 6 = true → (.pointer (some ⟨z, 6, none⟩) : Value) = t9) ∧ (L 7 = true → (.slice G lg g : Value) = t10) ∧ (L 9 = true → (.pointer (some ⟨z, 4, none⟩) : Value) = t12) ∧ (L 11 = true → (.pointer (some ⟨z, 5, none⟩) : Value) = t13) ∧ (L 13 = true → (.pointer (some ⟨z, 6, none⟩) : Value) = t14) ∧ (Below w.heap.size w W) ∧ (W.heap[z + 1]? = some (.cells #[.string ⟨#[]⟩, .int .i64 0, .bool false, .bool false, .slice none 0 0, .slice none 0 0, .slice none 0 0, .int .i64 0] 32 (0, 0))) ∧ (L 10 = false → W.heap[z]? = some (.cells #[.string ⟨⟨nm⟩⟩, .int .i64 ver, .bool tr, .bool se, .slice A la a, .slice C lc c, .slice G lg g, .int .i64 li] 32 (0, 0))) ∧ (L 10 = true → L 12 = false → W.heap[z]? = some (.cells #[.string ⟨⟨nm⟩⟩, .int .i64 ver, .bool tr, .bool se, t5, .slice C lc c, .slice G lg g, .int .i64 li] 32 (0, 0))) ∧ (L 12 = true → L 14 = false → W.heap[z]? = some (.cells #[.string ⟨⟨nm⟩⟩, .int .i64 ver, .bool tr, .bool se, t5, t8, .slice G lg g, .int .i64 li] 32 (0, 0))) ∧ (L 14 = true → W.heap[z]? = some (.cells #[.string ⟨⟨nm⟩⟩, .int .i64 ver, .bool tr, .bool se, t5, t8, t11, .int .i64 li] 32 (0, 0))) ∧ (L 2 = true → OwnS W t5 al ∧ ∀ k, t5.ownBlock = some k → z + 2 ≤ k) ∧ (L 5 = true → OwnS W t8 ac ∧ (∀ k, t8.ownBlock = some k → z + 2 ≤ k) ∧ ∀ k, t5.ownBlock = some k → t8.ownBlock ≠ some k) ∧ (L 8 = true → OwnI W t11 gr ∧ (∀ k, t11.ownBlock = some k → z + 2 ≤ k) ∧ (∀ k, t5.ownBlock = some k → t11.ownBlock ≠ some k) ∧ ∀ k, t8.ownBlock = some k → t11.ownBlock ≠ some k) ∧ (L 5 = true → L 2 = true) ∧ (L 8 = true → L 5 = true ∧ L 2 = true) ∧ (L 10 = true → L 1 = true ∧ L 4 = true ∧ L 7 = true ∧ L 8 = true) ∧ (L 12 = true → L 10 = true) ∧ (L 14 = true → L 12 = true)) (by kernel_rfl) ?_ ?_ ?_
  · exact ⟨_, _, _, _, _, _, _, _, _, _, _, _, rfl, nofun, nofun, nofun, nofun, nofun, nofun, nofun, nofun, nofun, HB0.out.drew, HG1.out, fun _ => HG0.out, nofun, nofun, nofun, nofun, nofun, nofun, nofun, nofun, nofun, nofun, nofun⟩
  · rintro L _ W i oo ⟨t3, t4, t5, t6, t7, t8, t9, t10, t11, t12, t13, t14, rfl, f0, f1, f3, f4, f6, f7, f9, f11, f13, qb, qy, qx, qx1, qx2, qx3, v2, v5, v8, r5, r8, r10, r12, r14⟩ ho hL hd
    rcases i with _ | _ | _ | _ | _ | _ | _ | _ | _ | _ | _ | _ | _ | _ | _ | i
    · obtain rfl := Option.some.inj ho
      refine wpOp_step rfl fun K hK => ?_
      have F0X := Lib.hid f0
      have F1X := Lib.hid f1
      have F3X := Lib.hid f3
      have F4X := Lib.hid f4
      have F6X := Lib.hid f6
      have F7X := Lib.hid f7
      have F9X := Lib.hid f9
      have F11X := Lib.hid f11
      have F13X := Lib.hid f13
      have QBX := Lib.hid qb
      have QYX := Lib.hid qy
      have QXX := Lib.hid qx
      have QX1X := Lib.hid qx1
      have QX2X := Lib.hid qx2
      have QX3X := Lib.hid qx3
      have V2X := Lib.hid v2
      have V5X := Lib.hid v5
      have V8X := Lib.hid v8
      have R5X := Lib.hid r5
      have R8X := Lib.hid r8
      have R10X := Lib.hid r10
      have R12X := Lib.hid r12
      have R14X := Lib.hid r14
      clear f0 f1 f3 f4 f6 f7 f9 f11 f13 qb qy qx qx1 qx2 qx3 v2 v5 v8 r5 r8 r10 r12 r14 hd ho hL
      go_simp
      refine hK _ _ ?_
      exact ⟨_, _, _, _, _, _, _, _, _, _, _, _, rfl, fun _ => rfl, F1X.out, F3X.out, F4X.out, F6X.out, F7X.out, F9X.out, F11X.out, F13X.out, QBX.out, QYX.out, QXX.out, QX1X.out, QX2X.out, QX3X.out, V2X.out, V5X.out, V8X.out, R5X.out, R8X.out, R10X.out, R12X.out, R14X.out⟩
    · obtain rfl := Option.some.inj ho
      have l0 := hd ⟨0, .data⟩ (by simp) rfl
      obtain rfl := f0 l0
      have h10 : L 10 = false := by cases hq : L 10 with | false => rfl | true => (have := r10 hq; simp [hL] at this)
      obtain ⟨c0, c1, c2, c3, c4, c5, c6, c7⟩ := cell8 (qx h10)
      refine wpOp_step rfl fun K hK => ?_
      have F0X := Lib.hid f0
      have F1X := Lib.hid f1
      have F3X := Lib.hid f3
      have F4X := Lib.hid f4
      have F6X := Lib.hid f6
      have F7X := Lib.hid f7
      have F9X := Lib.hid f9
      have F11X := Lib.hid f11
      have F13X := Lib.hid f13
      have QBX := Lib.hid qb
      have QYX := Lib.hid qy
      have QXX := Lib.hid qx
      have QX1X := Lib.hid qx1
      have QX2X := Lib.hid qx2
      have QX3X := Lib.hid qx3
      have V2X := Lib.hid v2
      have V5X := Lib.hid v5
      have V8X := Lib.hid v8
      have R5X := Lib.hid r5
      have R8X := Lib.hid r8
      have R10X := Lib.hid r10
      have R12X := Lib.hid r12
      have R14X := Lib.hid r14
      clear f0 f1 f3 f4 f6 f7 f9 f11 f13 qb qy qx qx1 qx2 qx3 v2 v5 v8 r5 r8 r10 r12 r14 hd ho hL l0
      go_simp
      refine hK _ _ ?_
      exact ⟨_, _, _, _, _, _, _, _, _, _, _, _, rfl, F0X.out, fun _ => rfl, F3X.out, F4X.out, F6X.out, F7X.out, F9X.out, F11X.out, F13X.out, QBX.out, QYX.out, QXX.out, QX1X.out, QX2X.out, QX3X.out, V2X.out, V5X.out, V8X.out, R5X.out, R8X.out, fun h => ⟨rfl, (R10X.out h).2.1, (R10X.out h).2.2.1, (R10X.out h).2.2.2⟩, R12X.out, R14X.out⟩
    · obtain rfl := Option.some.inj ho
      have l1 := hd ⟨1, .data⟩ (by simp) rfl
      obtain rfl := f1 l1
      have hzW : z + 2 ≤ W.heap.size := by have h1 := (Array.getElem?_eq_some_iff.1 qy).1; omega
      have HZW := Lib.hid hzW
      have HL2 := Lib.hid hL
      have HC := Lib.hid (HC1.out W qb)
      refine wpOp_step rfl fun K hK => ?_
      have F0X := Lib.hid f0
      have F1X := Lib.hid f1
      have F3X := Lib.hid f3
      have F4X := Lib.hid f4
      have F6X := Lib.hid f6
      have F7X := Lib.hid f7
      have F9X := Lib.hid f9
      have F11X := Lib.hid f11
      have F13X := Lib.hid f13
      have QBX := Lib.hid qb
      have QYX := Lib.hid qy
      have QXX := Lib.hid qx
      have QX1X := Lib.hid qx1
      have QX2X := Lib.hid qx2
      have QX3X := Lib.hid qx3
      have V2X := Lib.hid v2
      have V5X := Lib.hid v5
      have V8X := Lib.hid v8
      have R5X := Lib.hid r5
      have R8X := Lib.hid r8
      have R10X := Lib.hid r10
      have R12X := Lib.hid r12
      have R14X := Lib.hid r14
      clear f0 f1 f3 f4 f6 f7 f9 f11 f13 qb qy qx qx1 qx2 qx3 v2 v5 v8 r5 r8 r10 r12 r14 hd ho hL l1 hzW
      go_simp
      refine HC.out.mono ?_
      rintro _ w1 ⟨u, rfl, ho, hl, hb1⟩
      refine hK _ _ ?_
      have hu : ∀ k, u.ownBlock = some k → z + 2 ≤ k := fun k hk => Nat.le_trans HZW.out (hl k hk)
      have n5 : L 5 = false := by cases hq : L 5 with | false => rfl | true => (have := R5X.out hq; simp [HL2.out] at this)
      have n8 : L 8 = false := by cases hq : L 8 with | false => rfl | true => (have := (R8X.out hq).2; simp [HL2.out] at this)
      have n10 : L 10 = false := by cases hq : L 10 with | false => rfl | true => (have := (R10X.out hq).2.2.2; simp [n8] at this)
      have n12 : L 12 = false := by cases hq : L 12 with | false => rfl | true => (have := R12X.out hq; simp [n10] at this)
      have n14 : L 14 = false := by cases hq : L 14 with | false => rfl | true => (have := R14X.out hq; simp [n12] at this)
      exact ⟨_, _, _, _, _, _, _, _, _, _, _, _, rfl, F0X.out, F1X.out, F3X.out, F4X.out, F6X.out, F7X.out, F9X.out, F11X.out, F13X.out, QBX.out.trans (hb1.mono QBX.out.size), (hb1.block (z + 1) (Array.getElem?_eq_some_iff.1 QYX.out).1).trans QYX.out, fun h => (hb1.block z (Array.getElem?_eq_some_iff.1 (QXX.out h)).1).trans (QXX.out h), fun h => absurd (show L 10 = true from h) (by simp [n10]), fun h => absurd (show L 12 = true from h) (by simp [n12]), fun h => absurd (show L 14 = true from h) (by simp [n14]), fun _ => ⟨ho, hu⟩, fun h => absurd (show L 5 = true from h) (by simp [n5]), fun h => absurd (show L 8 = true from h) (by simp [n8]), fun _ => rfl, fun h => ⟨(R8X.out h).1, rfl⟩, R10X.out, R12X.out, R14X.out⟩
    · obtain rfl := Option.some.inj ho
      refine wpOp_step rfl fun K hK => ?_
      have F0X := Lib.hid f0
      have F1X := Lib.hid f1
      have F3X := Lib.hid f3
      have F4X := Lib.hid f4
      have F6X := Lib.hid f6
      have F7X := Lib.hid f7
      have F9X := Lib.hid f9
      have F11X := Lib.hid f11
      have F13X := Lib.hid f13
      have QBX := Lib.hid qb
      have QYX := Lib.hid qy
      have QXX := Lib.hid qx
      have QX1X := Lib.hid qx1
      have QX2X := Lib.hid qx2
      have QX3X := Lib.hid qx3
      have V2X := Lib.hid v2
      have V5X := Lib.hid v5
      have V8X := Lib.hid v8
      have R5X := Lib.hid r5
      have R8X := Lib.hid r8
      have R10X := Lib.hid r10
      have R12X := Lib.hid r12
      have R14X := Lib.hid r14
      clear f0 f1 f3 f4 f6 f7 f9 f11 f13 qb qy qx qx1 qx2 qx3 v2 v5 v8 r5 r8 r10 r12 r14 hd ho hL
      go_simp
      refine hK _ _ ?_
      exact ⟨_, _, _, _, _, _, _, _, _, _, _, _, rfl, F0X.out, F1X.out, fun _ => rfl, F4X.out, F6X.out, F7X.out, F9X.out, F11X.out, F13X.out, QBX.out, QYX.out, QXX.out, QX1X.out, QX2X.out, QX3X.out, V2X.out, V5X.out, V8X.out, R5X.out, R8X.out, R10X.out, R12X.out, R14X.out⟩
    · obtain rfl := Option.some.inj ho
      have l3 := hd ⟨3, .data⟩ (by simp) rfl
      obtain rfl := f3 l3
      have h10 : L 10 = false := by cases hq : L 10 with | false => rfl | true => (have := r10 hq; simp [hL] at this)
      obtain ⟨c0, c1, c2, c3, c4, c5, c6, c7⟩ := cell8 (qx h10)
      refine wpOp_step rfl fun K hK => ?_
      have F0X := Lib.hid f0
      have F1X := Lib.hid f1
      have F3X := Lib.hid f3
      have F4X := Lib.hid f4
      have F6X := Lib.hid f6
      have F7X := Lib.hid f7
      have F9X := Lib.hid f9
      have F11X := Lib.hid f11
      have F13X := Lib.hid f13
      have QBX := Lib.hid qb
      have QYX := Lib.hid qy
      have QXX := Lib.hid qx
      have QX1X := Lib.hid qx1
      have QX2X := Lib.hid qx2
      have QX3X := Lib.hid qx3
      have V2X := Lib.hid v2
      have V5X := Lib.hid v5
      have V8X := Lib.hid v8
      have R5X := Lib.hid r5
      have R8X := Lib.hid r8
      have R10X := Lib.hid r10
      have R12X := Lib.hid r12
      have R14X := Lib.hid r14
      clear f0 f1 f3 f4 f6 f7 f9 f11 f13 qb qy qx qx1 qx2 qx3 v2 v5 v8 r5 r8 r10 r12 r14 hd ho hL l3
      go_simp
      refine hK _ _ ?_
      exact ⟨_, _, _, _, _, _, _, _, _, _, _, _, rfl, F0X.out, F1X.out, F3X.out, fun _ => rfl, F6X.out, F7X.out, F9X.out, F11X.out, F13X.out, QBX.out, QYX.out, QXX.out, QX1X.out, QX2X.out, QX3X.out, V2X.out, V5X.out, V8X.out, R5X.out, R8X.out, fun h => ⟨(R10X.out h).1, rfl, (R10X.out h).2.2.1, (R10X.out h).2.2.2⟩, R12X.out, R14X.out⟩
    · obtain rfl := Option.some.inj ho
      have l4 := hd ⟨4, .data⟩ (by simp) rfl
      have l2 := hd ⟨2, .chain⟩ (by simp) rfl
      obtain rfl := f4 l4
      have hzW : z + 2 ≤ W.heap.size := by have h1 := (Array.getElem?_eq_some_iff.1 qy).1; omega
      have HZW := Lib.hid hzW
      have L2 := Lib.hid l2
      have HL2 := Lib.hid hL
      have HC := Lib.hid (HC2.out W qb)
      refine wpOp_step rfl fun K hK => ?_
      have F0X := Lib.hid f0
      have F1X := Lib.hid f1
      have F3X := Lib.hid f3
      have F4X := Lib.hid f4
      have F6X := Lib.hid f6
      have F7X := Lib.hid f7
      have F9X := Lib.hid f9
      have F11X := Lib.hid f11
      have F13X := Lib.hid f13
      have QBX := Lib.hid qb
      have QYX := Lib.hid qy
      have QXX := Lib.hid qx
      have QX1X := Lib.hid qx1
      have QX2X := Lib.hid qx2
      have QX3X := Lib.hid qx3
      have V2X := Lib.hid v2
      have V5X := Lib.hid v5
      have V8X := Lib.hid v8
      have R5X := Lib.hid r5
      have R8X := Lib.hid r8
      have R10X := Lib.hid r10
      have R12X := Lib.hid r12
      have R14X := Lib.hid r14
      clear f0 f1 f3 f4 f6 f7 f9 f11 f13 qb qy qx qx1 qx2 qx3 v2 v5 v8 r5 r8 r10 r12 r14 hd ho hL l4 l2 hzW
      go_simp
      refine HC.out.mono ?_
      rintro _ w1 ⟨u, rfl, ho, hl, hb1⟩
      refine hK _ _ ?_
      have hu : ∀ k, u.ownBlock = some k → z + 2 ≤ k := fun k hk => Nat.le_trans HZW.out (hl k hk)
      have hs : ∀ k, t5.ownBlock = some k → u.ownBlock ≠ some k := fun k hk e => by have h1 := (V2X.out L2.out).1.lt k hk; have h2 := hl k e; omega
      have n8 : L 8 = false := by cases hq : L 8 with | false => rfl | true => (have := (R8X.out hq).1; simp [HL2.out] at this)
      have n10 : L 10 = false := by cases hq : L 10 with | false => rfl | true => (have := (R10X.out hq).2.2.2; simp [n8] at this)
      have n12 : L 12 = false := by cases hq : L 12 with | false => rfl | true => (have := R12X.out hq; simp [n10] at this)
      have n14 : L 14 = false := by cases hq : L 14 with | false => rfl | true => (have := R14X.out hq; simp [n12] at this)
      exact ⟨_, _, _, _, _, _, _, _, _, _, _, _, rfl, F0X.out, F1X.out, F3X.out, F4X.out, F6X.out, F7X.out, F9X.out, F11X.out, F13X.out, QBX.out.trans (hb1.mono QBX.out.size), (hb1.block (z + 1) (Array.getElem?_eq_some_iff.1 QYX.out).1).trans QYX.out, fun h => (hb1.block z (Array.getElem?_eq_some_iff.1 (QXX.out h)).1).trans (QXX.out h), fun h h2 => (hb1.block z (Array.getElem?_eq_some_iff.1 (QX1X.out h h2)).1).trans (QX1X.out h h2), fun h => absurd (show L 12 = true from h) (by simp [n12]), fun h => absurd (show L 14 = true from h) (by simp [n14]), fun h => ⟨(V2X.out h).1.keep (fun k hk => hb1.block k ((V2X.out h).1.lt k hk)), (V2X.out h).2⟩, fun _ => ⟨ho, hu, hs⟩, fun h => absurd (show L 8 = true from h) (by simp [n8]), fun _ => L2.out, fun h => ⟨rfl, L2.out⟩, R10X.out, R12X.out, R14X.out⟩
    · obtain rfl := Option.some.inj ho
      refine wpOp_step rfl fun K hK => ?_
      have F0X := Lib.hid f0
      have F1X := Lib.hid f1
      have F3X := Lib.hid f3
      have F4X := Lib.hid f4
      have F6X := Lib.hid f6
      have F7X := Lib.hid f7
      have F9X := Lib.hid f9
      have F11X := Lib.hid f11
      have F13X := Lib.hid f13
      have QBX := Lib.hid qb
      have QYX := Lib.hid qy
      have QXX := Lib.hid qx
      have QX1X := Lib.hid qx1
      have QX2X := Lib.hid qx2
      have QX3X := Lib.hid qx3
      have V2X := Lib.hid v2
      have V5X := Lib.hid v5
      have V8X := Lib.hid v8
      have R5X := Lib.hid r5
      have R8X := Lib.hid r8
      have R10X := Lib.hid r10
      have R12X := Lib.hid r12
      have R14X := Lib.hid r14
      clear f0 f1 f3 f4 f6 f7 f9 f11 f13 qb qy qx qx1 qx2 qx3 v2 v5 v8 r5 r8 r10 r12 r14 hd ho hL
      go_simp
      refine hK _ _ ?_
      exact ⟨_, _, _, _, _, _, _, _, _, _, _, _, rfl, F0X.out, F1X.out, F3X.out, F4X.out, fun _ => rfl, F7X.out, F9X.out, F11X.out, F13X.out, QBX.out, QYX.out, QXX.out, QX1X.out, QX2X.out, QX3X.out, V2X.out, V5X.out, V8X.out, R5X.out, R8X.out, R10X.out, R12X.out, R14X.out⟩
    · obtain rfl := Option.some.inj ho
      have l6 := hd ⟨6, .data⟩ (by simp) rfl
      obtain rfl := f6 l6
      have h10 : L 10 = false := by cases hq : L 10 with | false => rfl | true => (have := r10 hq; simp [hL] at this)
      obtain ⟨c0, c1, c2, c3, c4, c5, c6, c7⟩ := cell8 (qx h10)
      refine wpOp_step rfl fun K hK => ?_
      have F0X := Lib.hid f0
      have F1X := Lib.hid f1
      have F3X := Lib.hid f3
      have F4X := Lib.hid f4
      have F6X := Lib.hid f6
      have F7X := Lib.hid f7
      have F9X := Lib.hid f9
      have F11X := Lib.hid f11
      have F13X := Lib.hid f13
      have QBX := Lib.hid qb
      have QYX := Lib.hid qy
      have QXX := Lib.hid qx
      have QX1X := Lib.hid qx1
      have QX2X := Lib.hid qx2
      have QX3X := Lib.hid qx3
      have V2X := Lib.hid v2
      have V5X := Lib.hid v5
      have V8X := Lib.hid v8
      have R5X := Lib.hid r5
      have R8X := Lib.hid r8
      have R10X := Lib.hid r10
      have R12X := Lib.hid r12
      have R14X := Lib.hid r14
      clear f0 f1 f3 f4 f6 f7 f9 f11 f13 qb qy qx qx1 qx2 qx3 v2 v5 v8 r5 r8 r10 r12 r14 hd ho hL l6
      go_simp
      refine hK _ _ ?_
      exact ⟨_, _, _, _, _, _, _, _, _, _, _, _, rfl, F0X.out, F1X.out, F3X.out, F4X.out, F6X.out, fun _ => rfl, F9X.out, F11X.out, F13X.out, QBX.out, QYX.out, QXX.out, QX1X.out, QX2X.out, QX3X.out, V2X.out, V5X.out, V8X.out, R5X.out, R8X.out, fun h => ⟨(R10X.out h).1, (R10X.out h).2.1, rfl, (R10X.out h).2.2.2⟩, R12X.out, R14X.out⟩
    · obtain rfl := Option.some.inj ho
      have l7 := hd ⟨7, .data⟩ (by simp) rfl
      have l5 := hd ⟨5, .chain⟩ (by simp) rfl
      obtain rfl := f7 l7
      have hzW : z + 2 ≤ W.heap.size := by have h1 := (Array.getElem?_eq_some_iff.1 qy).1; omega
      have HZW := Lib.hid hzW
      have L5 := Lib.hid l5
      have HL2 := Lib.hid hL
      have HC := Lib.hid (HC3.out W qb)
      refine wpOp_step rfl fun K hK => ?_
      have F0X := Lib.hid f0
      have F1X := Lib.hid f1
      have F3X := Lib.hid f3
      have F4X := Lib.hid f4
      have F6X := Lib.hid f6
      have F7X := Lib.hid f7
      have F9X := Lib.hid f9
      have F11X := Lib.hid f11
      have F13X := Lib.hid f13
      have QBX := Lib.hid qb
      have QYX := Lib.hid qy
      have QXX := Lib.hid qx
      have QX1X := Lib.hid qx1
      have QX2X := Lib.hid qx2
      have QX3X := Lib.hid qx3
      have V2X := Lib.hid v2
      have V5X := Lib.hid v5
      have V8X := Lib.hid v8
      have R5X := Lib.hid r5
      have R8X := Lib.hid r8
      have R10X := Lib.hid r10
      have R12X := Lib.hid r12
      have R14X := Lib.hid r14
      clear f0 f1 f3 f4 f6 f7 f9 f11 f13 qb qy qx qx1 qx2 qx3 v2 v5 v8 r5 r8 r10 r12 r14 hd ho hL l7 l5 hzW
      go_simp
      refine HC.out.mono ?_
      rintro _ w1 ⟨u, rfl, ho, hl, hb1⟩
      refine hK _ _ ?_
      have hu : ∀ k, u.ownBlock = some k → z + 2 ≤ k := fun k hk => Nat.le_trans HZW.out (hl k hk)
      have hs : ∀ k, t5.ownBlock = some k → u.ownBlock ≠ some k := fun k hk e => by have h1 := (V2X.out (R5X.out L5.out)).1.lt k hk; have h2 := hl k e; omega
      have ht : ∀ k, t8.ownBlock = some k → u.ownBlock ≠ some k := fun k hk e => by have h1 := (V5X.out L5.out).1.lt k hk; have h2 := hl k e; omega
      have n10 : L 10 = false := by cases hq : L 10 with | false => rfl | true => (have := (R10X.out hq).2.2.2; simp [HL2.out] at this)
      have n12 : L 12 = false := by cases hq : L 12 with | false => rfl | true => (have := R12X.out hq; simp [n10] at this)
      have n14 : L 14 = false := by cases hq : L 14 with | false => rfl | true => (have := R14X.out hq; simp [n12] at this)
      exact ⟨_, _, _, _, _, _, _, _, _, _, _, _, rfl, F0X.out, F1X.out, F3X.out, F4X.out, F6X.out, F7X.out, F9X.out, F11X.out, F13X.out, QBX.out.trans (hb1.mono QBX.out.size), (hb1.block (z + 1) (Array.getElem?_eq_some_iff.1 QYX.out).1).trans QYX.out, fun h => (hb1.block z (Array.getElem?_eq_some_iff.1 (QXX.out h)).1).trans (QXX.out h), fun h h2 => (hb1.block z (Array.getElem?_eq_some_iff.1 (QX1X.out h h2)).1).trans (QX1X.out h h2), fun h h2 => (hb1.block z (Array.getElem?_eq_some_iff.1 (QX2X.out h h2)).1).trans (QX2X.out h h2), fun h => absurd (show L 14 = true from h) (by simp [n14]), fun h => ⟨(V2X.out h).1.keep (fun k hk => hb1.block k ((V2X.out h).1.lt k hk)), (V2X.out h).2⟩, fun h => ⟨(V5X.out h).1.keep (fun k hk => hb1.block k ((V5X.out h).1.lt k hk)), (V5X.out h).2⟩, fun _ => ⟨ho, hu, hs, ht⟩, R5X.out, fun h => ⟨L5.out, R5X.out L5.out⟩, fun h => ⟨(R10X.out h).1, (R10X.out h).2.1, (R10X.out h).2.2.1, rfl⟩, R12X.out, R14X.out⟩
    · obtain rfl := Option.some.inj ho
      refine wpOp_step rfl fun K hK => ?_
      have F0X := Lib.hid f0
      have F1X := Lib.hid f1
      have F3X := Lib.hid f3
      have F4X := Lib.hid f4
      have F6X := Lib.hid f6
      have F7X := Lib.hid f7
      have F9X := Lib.hid f9
      have F11X := Lib.hid f11
      have F13X := Lib.hid f13
      have QBX := Lib.hid qb
      have QYX := Lib.hid qy
      have QXX := Lib.hid qx
      have QX1X := Lib.hid qx1
      have QX2X := Lib.hid qx2
      have QX3X := Lib.hid qx3
      have V2X := Lib.hid v2
      have V5X := Lib.hid v5
      have V8X := Lib.hid v8
      have R5X := Lib.hid r5
      have R8X := Lib.hid r8
      have R10X := Lib.hid r10
      have R12X := Lib.hid r12
      have R14X := Lib.hid r14
      clear f0 f1 f3 f4 f6 f7 f9 f11 f13 qb qy qx qx1 qx2 qx3 v2 v5 v8 r5 r8 r10 r12 r14 hd ho hL
      go_simp
      refine hK _ _ ?_
      exact ⟨_, _, _, _, _, _, _, _, _, _, _, _, rfl, F0X.out, F1X.out, F3X.out, F4X.out, F6X.out, F7X.out, fun _ => rfl, F11X.out, F13X.out, QBX.out, QYX.out, QXX.out, QX1X.out, QX2X.out, QX3X.out, V2X.out, V5X.out, V8X.out, R5X.out, R8X.out, R10X.out, R12X.out, R14X.out⟩
    · obtain rfl := Option.some.inj ho
      have l9 := hd ⟨9, .data⟩ (by simp) rfl
      obtain rfl := f9 l9
      have LA := Lib.hid (And.intro (hd ⟨1, .phase⟩ (by simp) rfl) (And.intro (hd ⟨4, .phase⟩ (by simp) rfl) (And.intro (hd ⟨7, .phase⟩ (by simp) rfl) (hd ⟨8, .chain⟩ (by simp) rfl))))
      have HL2 := Lib.hid hL
      obtain ⟨A2, k2, e5, -, -⟩ := (v2 (r8 (hd ⟨8, .chain⟩ (by simp) rfl)).2).1.form
      subst e5
      have hcur := qx hL
      obtain ⟨cc0, cc1, cc2, cc3, cc4, cc5, cc6, cc7⟩ := cell8 hcur
      have hf := fun k => frozen_of_row _ _ k _ _ hcur
      have hnew := heap_setCell_same _ _ 4 _ _ (.slice A2 al.length k2) hcur
      have HNEW := Lib.hid hnew
      clear hnew hcur
      refine wpOp_step rfl fun K hK => ?_
      have F0X := Lib.hid f0
      have F1X := Lib.hid f1
      have F3X := Lib.hid f3
      have F4X := Lib.hid f4
      have F6X := Lib.hid f6
      have F7X := Lib.hid f7
      have F9X := Lib.hid f9
      have F11X := Lib.hid f11
      have F13X := Lib.hid f13
      have QBX := Lib.hid qb
      have QYX := Lib.hid qy
      have QXX := Lib.hid qx
      have QX1X := Lib.hid qx1
      have QX2X := Lib.hid qx2
      have QX3X := Lib.hid qx3
      have V2X := Lib.hid v2
      have V5X := Lib.hid v5
      have V8X := Lib.hid v8
      have R5X := Lib.hid r5
      have R8X := Lib.hid r8
      have R10X := Lib.hid r10
      have R12X := Lib.hid r12
      have R14X := Lib.hid r14
      clear f0 f1 f3 f4 f6 f7 f9 f11 f13 qb qy qx qx1 qx2 qx3 v2 v5 v8 r5 r8 r10 r12 r14 hd ho hL l9
      go_simp
      refine hK _ _ ?_
      exact ⟨_, _, _, _, _, _, _, _, _, _, _, _, rfl, F0X.out, F1X.out, F3X.out, F4X.out, F6X.out, F7X.out, F9X.out, F11X.out, F13X.out, QBX.out.setCell (p := ⟨z, 4, none⟩) (by show w.heap.size ≤ z; rw [HZ.out]; exact Nat.le_refl _) _, (heap_setCell_other _ _ _ _ (by show z + 1 ≠ z; omega)).trans QYX.out, nofun, fun _ _ => HNEW.out, fun h => absurd (R12X.out h) (by simp [HL2.out]), fun h => absurd (R12X.out (R14X.out h)) (by simp [HL2.out]), fun h => ⟨(V2X.out h).1.keep (fun k hk => heap_setCell_other _ _ _ _ (by have := (V2X.out h).2 k hk; show k ≠ z; omega)), (V2X.out h).2⟩, fun h => ⟨(V5X.out h).1.keep (fun k hk => heap_setCell_other _ _ _ _ (by have := (V5X.out h).2.1 k hk; show k ≠ z; omega)), (V5X.out h).2⟩, fun h => ⟨(V8X.out h).1.keep (fun k hk => heap_setCell_other _ _ _ _ (by have := (V8X.out h).2.1 k hk; show k ≠ z; omega)), (V8X.out h).2⟩, R5X.out, R8X.out, fun _ => LA.out, fun _ => rfl, R14X.out⟩
    · obtain rfl := Option.some.inj ho
      refine wpOp_step rfl fun K hK => ?_
      have F0X := Lib.hid f0
      have F1X := Lib.hid f1
      have F3X := Lib.hid f3
      have F4X := Lib.hid f4
      have F6X := Lib.hid f6
      have F7X := Lib.hid f7
      have F9X := Lib.hid f9
      have F11X := Lib.hid f11
      have F13X := Lib.hid f13
      have QBX := Lib.hid qb
      have QYX := Lib.hid qy
      have QXX := Lib.hid qx
      have QX1X := Lib.hid qx1
      have QX2X := Lib.hid qx2
      have QX3X := Lib.hid qx3
      have V2X := Lib.hid v2
      have V5X := Lib.hid v5
      have V8X := Lib.hid v8
      have R5X := Lib.hid r5
      have R8X := Lib.hid r8
      have R10X := Lib.hid r10
      have R12X := Lib.hid r12
      have R14X := Lib.hid r14
      clear f0 f1 f3 f4 f6 f7 f9 f11 f13 qb qy qx qx1 qx2 qx3 v2 v5 v8 r5 r8 r10 r12 r14 hd ho hL
      go_simp
      refine hK _ _ ?_
      exact ⟨_, _, _, _, _, _, _, _, _, _, _, _, rfl, F0X.out, F1X.out, F3X.out, F4X.out, F6X.out, F7X.out, F9X.out, fun _ => rfl, F13X.out, QBX.out, QYX.out, QXX.out, QX1X.out, QX2X.out, QX3X.out, V2X.out, V5X.out, V8X.out, R5X.out, R8X.out, R10X.out, R12X.out, R14X.out⟩
    · obtain rfl := Option.some.inj ho
      have l11 := hd ⟨11, .data⟩ (by simp) rfl
      obtain rfl := f11 l11
      have LB := Lib.hid (hd ⟨10, .chain⟩ (by simp) rfl)
      have HL2 := Lib.hid hL
      obtain ⟨A2, k2, e8, -, -⟩ := (v5 (hd ⟨5, .data⟩ (by simp) rfl)).1.form
      obtain ⟨A1, k1, e5, -, -⟩ := (v2 (r5 (hd ⟨5, .data⟩ (by simp) rfl))).1.form
      subst e8 e5
      have hcur := qx1 (hd ⟨10, .chain⟩ (by simp) rfl) hL
      obtain ⟨cc0, cc1, cc2, cc3, cc4, cc5, cc6, cc7⟩ := cell8 hcur
      have hf := fun k => frozen_of_row _ _ k _ _ hcur
      have hnew := heap_setCell_same _ _ 5 _ _ (.slice A2 ac.length k2) hcur
      have HNEW := Lib.hid hnew
      clear hnew hcur
      refine wpOp_step rfl fun K hK => ?_
      have F0X := Lib.hid f0
      have F1X := Lib.hid f1
      have F3X := Lib.hid f3
      have F4X := Lib.hid f4
      have F6X := Lib.hid f6
      have F7X := Lib.hid f7
      have F9X := Lib.hid f9
      have F11X := Lib.hid f11
      have F13X := Lib.hid f13
      have QBX := Lib.hid qb
      have QYX := Lib.hid qy
      have QXX := Lib.hid qx
      have QX1X := Lib.hid qx1
      have QX2X := Lib.hid qx2
      have QX3X := Lib.hid qx3
      have V2X := Lib.hid v2
      have V5X := Lib.hid v5
      have V8X := Lib.hid v8
      have R5X := Lib.hid r5
      have R8X := Lib.hid r8
      have R10X := Lib.hid r10
      have R12X := Lib.hid r12
      have R14X := Lib.hid r14
      clear f0 f1 f3 f4 f6 f7 f9 f11 f13 qb qy qx qx1 qx2 qx3 v2 v5 v8 r5 r8 r10 r12 r14 hd ho hL l11
      go_simp
      refine hK _ _ ?_
      exact ⟨_, _, _, _, _, _, _, _, _, _, _, _, rfl, F0X.out, F1X.out, F3X.out, F4X.out, F6X.out, F7X.out, F9X.out, F11X.out, F13X.out, QBX.out.setCell (p := ⟨z, 5, none⟩) (by show w.heap.size ≤ z; rw [HZ.out]; exact Nat.le_refl _) _, (heap_setCell_other _ _ _ _ (by show z + 1 ≠ z; omega)).trans QYX.out, fun h => absurd (show L 10 = false from h) (by simp [LB.out]), nofun, fun _ _ => HNEW.out, fun h => absurd (R14X.out h) (by simp [HL2.out]), fun h => ⟨(V2X.out h).1.keep (fun k hk => heap_setCell_other _ _ _ _ (by have := (V2X.out h).2 k hk; show k ≠ z; omega)), (V2X.out h).2⟩, fun h => ⟨(V5X.out h).1.keep (fun k hk => heap_setCell_other _ _ _ _ (by have := (V5X.out h).2.1 k hk; show k ≠ z; omega)), (V5X.out h).2⟩, fun h => ⟨(V8X.out h).1.keep (fun k hk => heap_setCell_other _ _ _ _ (by have := (V8X.out h).2.1 k hk; show k ≠ z; omega)), (V8X.out h).2⟩, R5X.out, R8X.out, R10X.out, fun _ => LB.out, fun _ => rfl⟩
    · obtain rfl := Option.some.inj ho
      refine wpOp_step rfl fun K hK => ?_
      have F0X := Lib.hid f0
      have F1X := Lib.hid f1
      have F3X := Lib.hid f3
      have F4X := Lib.hid f4
      have F6X := Lib.hid f6
      have F7X := Lib.hid f7
      have F9X := Lib.hid f9
      have F11X := Lib.hid f11
      have F13X := Lib.hid f13
      have QBX := Lib.hid qb
      have QYX := Lib.hid qy
      have QXX := Lib.hid qx
      have QX1X := Lib.hid qx1
      have QX2X := Lib.hid qx2
      have QX3X := Lib.hid qx3
      have V2X := Lib.hid v2
      have V5X := Lib.hid v5
      have V8X := Lib.hid v8
      have R5X := Lib.hid r5
      have R8X := Lib.hid r8
      have R10X := Lib.hid r10
      have R12X := Lib.hid r12
      have R14X := Lib.hid r14
      clear f0 f1 f3 f4 f6 f7 f9 f11 f13 qb qy qx qx1 qx2 qx3 v2 v5 v8 r5 r8 r10 r12 r14 hd ho hL
      go_simp
      refine hK _ _ ?_
      exact ⟨_, _, _, _, _, _, _, _, _, _, _, _, rfl, F0X.out, F1X.out, F3X.out, F4X.out, F6X.out, F7X.out, F9X.out, F11X.out, fun _ => rfl, QBX.out, QYX.out, QXX.out, QX1X.out, QX2X.out, QX3X.out, V2X.out, V5X.out, V8X.out, R5X.out, R8X.out, R10X.out, R12X.out, R14X.out⟩
    · obtain rfl := Option.some.inj ho
      have l13 := hd ⟨13, .data⟩ (by simp) rfl
      obtain rfl := f13 l13
      have LB := Lib.hid (And.intro (hd ⟨10, .phase⟩ (by simp) rfl) (hd ⟨12, .chain⟩ (by simp) rfl))
      have HL2 := Lib.hid hL
      obtain ⟨A2, k2, e11, -, -⟩ := (v8 (hd ⟨8, .data⟩ (by simp) rfl)).1.form
      obtain ⟨A1, k1, e8, -, -⟩ := (v5 (r8 (hd ⟨8, .data⟩ (by simp) rfl)).1).1.form
      obtain ⟨A0, k0, e5, -, -⟩ := (v2 (r8 (hd ⟨8, .data⟩ (by simp) rfl)).2).1.form
      subst e11 e8 e5
      have hcur := qx2 (hd ⟨12, .chain⟩ (by simp) rfl) hL
      obtain ⟨cc0, cc1, cc2, cc3, cc4, cc5, cc6, cc7⟩ := cell8 hcur
      have hf := fun k => frozen_of_row _ _ k _ _ hcur
      have hnew := heap_setCell_same _ _ 6 _ _ (.slice A2 gr.length k2) hcur
      have HNEW := Lib.hid hnew
      clear hnew hcur
      refine wpOp_step rfl fun K hK => ?_
      have F0X := Lib.hid f0
      have F1X := Lib.hid f1
      have F3X := Lib.hid f3
      have F4X := Lib.hid f4
      have F6X := Lib.hid f6
      have F7X := Lib.hid f7
      have F9X := Lib.hid f9
      have F11X := Lib.hid f11
      have F13X := Lib.hid f13
      have QBX := Lib.hid qb
      have QYX := Lib.hid qy
      have QXX := Lib.hid qx
      have QX1X := Lib.hid qx1
      have QX2X := Lib.hid qx2
      have QX3X := Lib.hid qx3
      have V2X := Lib.hid v2
      have V5X := Lib.hid v5
      have V8X := Lib.hid v8
      have R5X := Lib.hid r5
      have R8X := Lib.hid r8
      have R10X := Lib.hid r10
      have R12X := Lib.hid r12
      have R14X := Lib.hid r14
      clear f0 f1 f3 f4 f6 f7 f9 f11 f13 qb qy qx qx1 qx2 qx3 v2 v5 v8 r5 r8 r10 r12 r14 hd ho hL l13
      go_simp
      refine hK _ _ ?_
      exact ⟨_, _, _, _, _, _, _, _, _, _, _, _, rfl, F0X.out, F1X.out, F3X.out, F4X.out, F6X.out, F7X.out, F9X.out, F11X.out, F13X.out, QBX.out.setCell (p := ⟨z, 6, none⟩) (by show w.heap.size ≤ z; rw [HZ.out]; exact Nat.le_refl _) _, (heap_setCell_other _ _ _ _ (by show z + 1 ≠ z; omega)).trans QYX.out, fun h => absurd (show L 10 = false from h) (by simp [LB.out.1]), fun _ h => absurd (show L 12 = false from h) (by simp [LB.out.2]), nofun, fun _ => HNEW.out, fun h => ⟨(V2X.out h).1.keep (fun k hk => heap_setCell_other _ _ _ _ (by have := (V2X.out h).2 k hk; show k ≠ z; omega)), (V2X.out h).2⟩, fun h => ⟨(V5X.out h).1.keep (fun k hk => heap_setCell_other _ _ _ _ (by have := (V5X.out h).2.1 k hk; show k ≠ z; omega)), (V5X.out h).2⟩, fun h => ⟨(V8X.out h).1.keep (fun k hk => heap_setCell_other _ _ _ _ (by have := (V8X.out h).2.1 k hk; show k ≠ z; omega)), (V8X.out h).2⟩, R5X.out, R8X.out, R10X.out, R12X.out, fun _ => LB.out.2⟩
    · simp at ho
  · rintro L _ W ⟨t3, t4, t5, t6, t7, t8, t9, t10, t11, t12, t13, t14, rfl, f0, f1, f3, f4, f6, f7, f9, f11, f13, qb, qy, qx, qx1, qx2, qx3, v2, v5, v8, r5, r8, r10, r12, r14⟩ hall
    obtain rfl := f0 (hall 0 (by decide))
    obtain rfl := f1 (hall 1 (by decide))
    obtain rfl := f3 (hall 3 (by decide))
    obtain rfl := f4 (hall 4 (by decide))
    obtain rfl := f6 (hall 6 (by decide))
    obtain rfl := f7 (hall 7 (by decide))
    obtain rfl := f9 (hall 9 (by decide))
    obtain rfl := f11 (hall 11 (by decide))
    obtain rfl := f13 (hall 13 (by decide))
    have hv2 := v2 (hall 2 (by decide))
    have hv5 := v5 (hall 5 (by decide))
    have hv8 := v8 (hall 8 (by decide))
    have hx := qx3 (hall 14 (by decide))
    have HO : Hid (POwn W ⟨nm, ver, tr, se, al, ac, gr, li⟩ ⟨t5, t8, t11⟩) := ⟨hv2.1, hv5.1, hv8.1, hv5.2.2, hv8.2.2.1, hv8.2.2.2⟩
    have HL : Hid (∀ k, Bl ⟨t5, t8, t11⟩ k → z + 2 ≤ k) := fun k hk => by
      rcases hk with hk | hk | hk
      · exact hv2.2 k hk
      · exact hv5.2.1 k hk
      · exact hv8.2.1 k hk
    obtain ⟨A0, k0, e5, -, -⟩ := hv2.1.form
    obtain ⟨A1, k1, e8, -, -⟩ := hv5.1.form
    obtain ⟨A2, k2, e11, -, -⟩ := hv8.1.form
    subst e5 e8 e11
    obtain ⟨c0, c1, c2, c3, c4, c5, c6, c7⟩ := cell8 hx
    obtain ⟨y0, y1, y2, y3, y4, y5, y6, y7⟩ := cell8 qy
    have hf := fun k => frozen_of_row _ _ k _ _ qy
    have hres := set8_self (v0 := .string ⟨⟨nm⟩⟩) (v1 := .int .i64 ver) (v2 := .bool tr) (v3 := .bool se) (v4 := .slice A0 al.length k0) (v5 := .slice A1 ac.length k1) (v6 := .slice A2 gr.length k2) (v7 := .int .i64 li) qy
    have hbel := set8_below (z := z + 1) (v0 := .string ⟨⟨nm⟩⟩) (v1 := .int .i64 ver) (v2 := .bool tr) (v3 := .bool se) (v4 := .slice A0 al.length k0) (v5 := .slice A1 ac.length k1) (v6 := .slice A2 gr.length k2) (v7 := .int .i64 li) qb (by rw [← HZ.out]; omega)
    have HRES := Lib.hid hres
    have HBEL := Lib.hid hbel
    have HX : Hid (∀ k, k ≠ z + 1 → (set8 W (z + 1) (.string ⟨⟨nm⟩⟩) (.int .i64 ver) (.bool tr) (.bool se) (.slice A0 al.length k0) (.slice A1 ac.length k1) (.slice A2 gr.length k2) (.int .i64 li)).heap[k]? = W.heap[k]?) := fun k hk => set8_other hk
    clear hv2 hv5 hv8 hx qb qx qx1 qx2 qx3 qy v2 v5 v8 r5 r8 r10 r12 r14 hall hres hbel
    go_wp2
    obtain ⟨x0, x1, x2, x3, x4, x5, x6, x7⟩ := cell8 HRES.out
    unfold set8 at *
    refine bodyPost_ret (v := .agg #[.string ⟨⟨nm⟩⟩, .int .i64 ver, .bool tr, .bool se, .slice A0 al.length k0, .slice A1 ac.length k1, .slice A2 gr.length k2, .int .i64 li]) (by simp [results, Try.results27, go_sem, x0, x1, x2, x3, x4, x5, x6, x7]) rfl ?_
    exact ⟨⟨.slice A0 al.length k0, .slice A1 ac.length k1, .slice A2 gr.length k2⟩, rfl, HO.out.keep (fun k hk => HX.out k (by have := HL.out k hk; omega)), fun k hk => by have := HL.out k hk; rw [← HZ.out]; omega, HBEL.out⟩
end Go.Proofs.Ytehmfkcihieecaa.Po
