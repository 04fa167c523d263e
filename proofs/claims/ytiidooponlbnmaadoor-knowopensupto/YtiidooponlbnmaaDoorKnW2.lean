/- lay, mark. (Laid with NS=1.) -/
import Derived.Test.YtiidooponlbnmaaDoorKnW1
namespace Go.Proofs.YtiidooponlbnmaaDoor.Kn
open Go.RowKit
open Te Te.Tt

def LaySaid (x : Tm) : Prop := ∀ (B d : Nat) (S : Nat → Prop) (v vx : Value) (l : List UInt8) (w : World), vld d x = true → Buf B w v l → Rep w S x vx → (∀ b, S b → b < B) → l.length + (mk x).length ≤ 999999999000 → TabB B w →
  Calls Tryd.prog 52 #[v, vx] w fun e w' => ∃ v', e = .returned v' ∧ Buf B w' v' (l ++ mk x) ∧ Grw w v w' v'
theorem mis_k {k : Int} {s : List UInt8} {n : Int} {l : List Tm} (h : mis (.mk k s n l) = false) : 0 ≤ k ∧ k ≤ 5 := by
  rcases mis_kinds h with ⟨rfl, _⟩ | ⟨rfl, _⟩ | ⟨rfl, _⟩ | ⟨rfl, _⟩ | ⟨rfl, _⟩ | ⟨rfl, _⟩ <;> decide

theorem mis_len {k : Int} {s : List UInt8} {n : Int} {l : List Tm} (h : mis (.mk k s n l) = false) : l.length ≤ 64 := by
  rcases mis_kinds h with ⟨_, _, _, rfl⟩ | ⟨_, _, rfl⟩ | ⟨_, _, rfl⟩ | ⟨rfl, _⟩ | ⟨_, _, a, b, rfl⟩ | ⟨_, _, a, b, rfl⟩
  · simp
  · simp
  · simp
  · rw [mis] at h
    simp at h
    omega
  · simp
  · simp

set_option maxHeartbeats 4000000 in
set_option maxRecDepth 100000 in
theorem lay_of (k : Int) (s : List UInt8) (n : Int) (q : List Tm) (ih : ∀ x ∈ q, LaySaid x) : LaySaid (.mk k s n q) := by
  intro B d S v vx l w hv hb hr hS hl htab
  obtain ⟨A, ca, rfl, hn, hrow⟩ := rep_mk.1 hr
  have hkR := mis_k (vld_own hv).1
  have HQ : Hid (InR (q.length : Nat)) := by
    have := mis_len (vld_own hv).1
    rw [Hid, InR]
    omega
  rw [mk] at hl ⊢
  simp only [List.length_append, List.length_cons] at hl
  obtain ⟨z, hz⟩ : ∃ z, z = w.heap.size := ⟨_, rfl⟩
  have hb1 : Below w.heap.size w (w.alloc (.cells #[.int .i64 k, .string ⟨⟨s⟩⟩, .int .i64 n, .slice A q.length ca] 33)) := (Below.refl _ _).alloc (Nat.le_refl _) _
  have hg1 : (w.alloc (.cells #[.int .i64 k, .string ⟨⟨s⟩⟩, .int .i64 n, .slice A q.length ca] 33)).heap[z]? = some (.cells #[.int .i64 k, .string ⟨⟨s⟩⟩, .int .i64 n, .slice A q.length ca] 33 (0, 0)) := by rw [hz]; exact heap_alloc_new w _
  have hlow1 := hb.low (Grw.below (v := v) hb1)
  have HC1 := Lib.hid (number_any B k ⟨by omega, by omega⟩ v l _ (hb.bel hb1) (by omega) (htab.on hlow1))
  have HB0 := Lib.hid hb
  have HG1 := Lib.hid hg1
  have HGR1 := Lib.hid (Grw.below (v := v) hb1)
  have HBB1 := Lib.hid (hb.bel hb1)
  have HT := Lib.hid htab
  have HROW := Lib.hid hrow
  have HS := Lib.hid hS
  have HL := Lib.hid hl
  have HN := Lib.hid hn
  have HV := Lib.hid hv
  have HIH := Lib.hid ih
  have HZ := Lib.hid hz
  clear hb hr hS htab hb1 hg1 hlow1 hrow hkR hl hn hv ih hz
  go_enter Tryd.func52, Tryd.ntmps52
  go_wp2_with fail
  rw [← HZ.out]
  obtain ⟨c0, c1, c2, c3⟩ := cell4 HG1.out
  go_wp2_with fail
  refine HC1.out.mono ?_
  rintro _ w2 ⟨v2, rfl, hB2, hG2⟩
  have hK2 := hG2.keep HG1.out (HBB1.out.own HG1.out (by decide))
  obtain ⟨v3, w3, hr3, hB3, hG3⟩ := run_appS hB2 s (by have := HL.out; simp; omega)
  have hK3 := hG3.keep hK2.1 hK2.2
  obtain ⟨v4, w4, hr4, hB4, hG4⟩ := run_app (hB3.bel ((Below.refl _ _).alloc (Nat.le_refl _) (.cells #[.int .u8 32] 5))) [32] ⟨w3.heap.size, 0, none⟩ 1 (cell_byte w3 32) (by have := HL.out; simp; omega)
  have hG4' := (Grw.alloc w3 v3 (.cells #[.int .u8 32] 5)).trans hG4
  have hK4 := hG4'.keep hK3.1 hK3.2
  have HR3 := Lib.hid hr3
  have HR4 := Lib.hid hr4
  have HB4 := Lib.hid hB4
  have HGR4 := Lib.hid (((HGR1.out.trans hG2).trans hG3).trans hG4')
  have HK4 := Lib.hid hK4
  clear c0 c1 c2 c3
  obtain ⟨c0, c1, c2, c3⟩ := cell4 hK2.1
  clear hB2 hG2 hK2 hB3 hG3 hK3 hr3 hr4 hB4 hG4 hG4' hK4 HC1 HGR1
  go_wp2_with (first | (at_builtin; refine wpList_append_run _ rfl (.tmp 11) (.tmp 13) 68 9 rfl _ _ rfl rfl HR3.out ?_) | (at_builtin; refine wpList_append_run _ rfl (.tmp 14) (.tmp 15) 68 68 rfl _ _ rfl rfl HR4.out ?_))
  -- REGION
  have HL4 : Hid ((l ++ (Lib.itoa k ++ [32]) ++ s ++ [32]).length + (Lib.itoa n).length + (Lib.itoa (q.length : Nat)).length + (mks q).length ≤ 999999999000 - 2) := by have := HL.out; rw [Hid]; simp; omega
  have HLOW4 := Lib.hid (HB0.out.low HGR4.out)
  have HB4D := Lib.hid (And.intro (HB4.out.bel (Below.refl _ _).drew) (HGR4.out.trans (Grw.below (v := v4) (Below.refl _ _).drew)))
  obtain ⟨L4, hL4⟩ : ∃ L4, L4 = l ++ (Lib.itoa k ++ [32]) ++ s ++ [32] := ⟨_, rfl⟩
  obtain ⟨m3, hm3⟩ : ∃ m3, m3 = w3.heap.size := ⟨_, rfl⟩
  rw [← hL4] at HL4 HB4D HB4
  rw [← hm3]
  have HLE := Lib.hid hL4
  clear hL4 hm3 HR3 HR4 c0 c1 c2 c3
  refine wp_region_inv (by kernel_rfl) (fun L act W => ∃ t17 t18 t19 t20 t21 t22 t23 t24 t0, act = { tmps := #[t0, .agg #[.int .i64 k, .string ⟨⟨s⟩⟩, .int .i64 n, .slice A q.length ca], undef, .pointer (some ⟨z, 0, none⟩), .slice none 0 0, undef, undef, v, .pointer (some ⟨z, 0, none⟩), .int .i64 k, v2, v2, .pointer (some ⟨z, 1, none⟩), .string ⟨⟨s⟩⟩, v3, .slice (some ⟨m3, 0, none⟩) 1 1, v4, t17, t18, t19, t20, t21, t22, t23, t24, undef, undef, undef, undef, undef, undef, undef, undef, undef, undef, undef, undef], defers := [] } ∧ (L 0 = true → (v4 : Value) = t17) ∧ (L 1 = true → (.pointer (some ⟨z, 2, none⟩) : Value) = t18) ∧ (L 2 = true → (.int .i64 n : Value) = t19) ∧ (L 4 = true → (.pointer (some ⟨z, 3, none⟩) : Value) = t21) ∧ (L 5 = true → (.slice A q.length ca : Value) = t22) ∧ (L 6 = true → (.int .i64 (q.length : Nat) : Value) = t23) ∧ (L 8 = false → (v4 : Value) = t0) ∧ (Below B w W) ∧ (W.heap[z]? = some (.cells #[.int .i64 k, .string ⟨⟨s⟩⟩, .int .i64 n, .slice A q.length ca] 33 (0, 0))) ∧ (L 3 = false → Buf B W v4 L4 ∧ Grw w v W v4) ∧ (L 3 = true → L 7 = false → Buf B W t20 (L4 ++ (Lib.itoa n ++ [32])) ∧ Grw w v W t20) ∧ (L 7 = true → Buf B W t24 (L4 ++ (Lib.itoa n ++ [32]) ++ (Lib.itoa (q.length : Nat) ++ [32])) ∧ Grw w v W t24) ∧ (L 8 = true → t24 = t0) ∧ (L 8 = true → L 0 = true ∧ L 7 = true) ∧ (L 7 = true → L 3 = true)) (by kernel_rfl) ?_ ?_ ?_
  · exact ⟨_, _, _, _, _, _, _, _, _, rfl, nofun, nofun, nofun, nofun, nofun, nofun, fun _ => rfl, HLOW4.out.drew, HK4.out.1, fun _ => HB4D.out, nofun, nofun, nofun, nofun, nofun⟩
  · rintro L _ W i oo ⟨t17, t18, t19, t20, t21, t22, t23, t24, t0, rfl, f0, f1, f2, f4, f5, f6, u8, qb, qz, g0, g3, g7, e8, r8, r7⟩ ho hL hd
    rcases i with _ | _ | _ | _ | _ | _ | _ | _ | _ | i
    · obtain rfl := Option.some.inj ho
      have h8 : L 8 = false := by cases hq : L 8 with | false => rfl | true => (have := r8 hq; simp [hL] at this)
      obtain rfl := u8 h8
      clear h8
      refine wpOp_step rfl fun K hK => ?_
      have F0X := Lib.hid f0
      have F1X := Lib.hid f1
      have F2X := Lib.hid f2
      have F4X := Lib.hid f4
      have F5X := Lib.hid f5
      have F6X := Lib.hid f6
      have U8X := Lib.hid u8
      have QBX := Lib.hid qb
      have QZX := Lib.hid qz
      have G0X := Lib.hid g0
      have G3X := Lib.hid g3
      have G7X := Lib.hid g7
      have E8X := Lib.hid e8
      have R8X := Lib.hid r8
      have R7X := Lib.hid r7
      clear f0 f1 f2 f4 f5 f6 u8 qb qz g0 g3 g7 e8 r8 r7 hd ho hL
      go_simp
      refine hK _ _ ?_
      exact ⟨_, _, _, _, _, _, _, _, _, rfl, fun _ => rfl, F1X.out, F2X.out, F4X.out, F5X.out, F6X.out, U8X.out, QBX.out, QZX.out, G0X.out, G3X.out, G7X.out, E8X.out, fun h => ⟨rfl, (R8X.out h).2⟩, R7X.out⟩
    · obtain rfl := Option.some.inj ho
      refine wpOp_step rfl fun K hK => ?_
      have F0X := Lib.hid f0
      have F1X := Lib.hid f1
      have F2X := Lib.hid f2
      have F4X := Lib.hid f4
      have F5X := Lib.hid f5
      have F6X := Lib.hid f6
      have U8X := Lib.hid u8
      have QBX := Lib.hid qb
      have QZX := Lib.hid qz
      have G0X := Lib.hid g0
      have G3X := Lib.hid g3
      have G7X := Lib.hid g7
      have E8X := Lib.hid e8
      have R8X := Lib.hid r8
      have R7X := Lib.hid r7
      clear f0 f1 f2 f4 f5 f6 u8 qb qz g0 g3 g7 e8 r8 r7 hd ho hL
      go_simp
      refine hK _ _ ?_
      exact ⟨_, _, _, _, _, _, _, _, _, rfl, F0X.out, fun _ => rfl, F2X.out, F4X.out, F5X.out, F6X.out, U8X.out, QBX.out, QZX.out, G0X.out, G3X.out, G7X.out, E8X.out, R8X.out, R7X.out⟩
    · obtain rfl := Option.some.inj ho
      have l1 := hd ⟨1, .data⟩ (by simp) rfl
      obtain rfl := f1 l1
      have hcc := (cell4 qz).2.2.1
      refine wpOp_step rfl fun K hK => ?_
      have F0X := Lib.hid f0
      have F1X := Lib.hid f1
      have F2X := Lib.hid f2
      have F4X := Lib.hid f4
      have F5X := Lib.hid f5
      have F6X := Lib.hid f6
      have U8X := Lib.hid u8
      have QBX := Lib.hid qb
      have QZX := Lib.hid qz
      have G0X := Lib.hid g0
      have G3X := Lib.hid g3
      have G7X := Lib.hid g7
      have E8X := Lib.hid e8
      have R8X := Lib.hid r8
      have R7X := Lib.hid r7
      clear f0 f1 f2 f4 f5 f6 u8 qb qz g0 g3 g7 e8 r8 r7 hd ho hL l1
      go_simp
      refine hK _ _ ?_
      exact ⟨_, _, _, _, _, _, _, _, _, rfl, F0X.out, F1X.out, fun _ => rfl, F4X.out, F5X.out, F6X.out, U8X.out, QBX.out, QZX.out, G0X.out, G3X.out, G7X.out, E8X.out, R8X.out, R7X.out⟩
    · obtain rfl := Option.some.inj ho
      have l0 := hd ⟨0, .data⟩ (by simp) rfl
      have l2 := hd ⟨2, .data⟩ (by simp) rfl
      obtain rfl := f0 l0
      obtain rfl := f2 l2
      have h7 : L 7 = false := by cases hq : L 7 with | false => rfl | true => (have := r7 hq; simp [hL] at this)
      have H7X := Lib.hid h7
      clear h7
      have hg0 := g0 hL
      have HG0X := Lib.hid hg0
      clear hg0
      have HC := Lib.hid (number_any B n HN.out v4 L4 W (g0 hL).1 (by have := HL4.out; omega) (HT.out.on qb))
      refine wpOp_step rfl fun K hK => ?_
      have F0X := Lib.hid f0
      have F1X := Lib.hid f1
      have F2X := Lib.hid f2
      have F4X := Lib.hid f4
      have F5X := Lib.hid f5
      have F6X := Lib.hid f6
      have U8X := Lib.hid u8
      have QBX := Lib.hid qb
      have QZX := Lib.hid qz
      have G0X := Lib.hid g0
      have G3X := Lib.hid g3
      have G7X := Lib.hid g7
      have E8X := Lib.hid e8
      have R8X := Lib.hid r8
      have R7X := Lib.hid r7
      clear f0 f1 f2 f4 f5 f6 u8 qb qz g0 g3 g7 e8 r8 r7 hd ho hL l0 l2
      go_simp
      refine HC.out.mono ?_
      rintro _ w1 ⟨v5, rfl, hB5, hG5⟩
      refine hK _ _ ?_
      exact ⟨_, _, _, _, _, _, _, _, _, rfl, F0X.out, F1X.out, F2X.out, F4X.out, F5X.out, F6X.out, U8X.out, QBX.out.trans (HG0X.out.1.low hG5), (hG5.keep QZX.out (HG0X.out.1.own QZX.out (by decide))).1, nofun, fun _ _ => ⟨hB5, HG0X.out.2.trans hG5⟩, fun h => absurd (show L 7 = true from h) (by simp [H7X.out]), fun h => absurd (R8X.out h).2 (by simp [H7X.out]), R8X.out, fun _ => rfl⟩
    · obtain rfl := Option.some.inj ho
      refine wpOp_step rfl fun K hK => ?_
      have F0X := Lib.hid f0
      have F1X := Lib.hid f1
      have F2X := Lib.hid f2
      have F4X := Lib.hid f4
      have F5X := Lib.hid f5
      have F6X := Lib.hid f6
      have U8X := Lib.hid u8
      have QBX := Lib.hid qb
      have QZX := Lib.hid qz
      have G0X := Lib.hid g0
      have G3X := Lib.hid g3
      have G7X := Lib.hid g7
      have E8X := Lib.hid e8
      have R8X := Lib.hid r8
      have R7X := Lib.hid r7
      clear f0 f1 f2 f4 f5 f6 u8 qb qz g0 g3 g7 e8 r8 r7 hd ho hL
      go_simp
      refine hK _ _ ?_
      exact ⟨_, _, _, _, _, _, _, _, _, rfl, F0X.out, F1X.out, F2X.out, fun _ => rfl, F5X.out, F6X.out, U8X.out, QBX.out, QZX.out, G0X.out, G3X.out, G7X.out, E8X.out, R8X.out, R7X.out⟩
    · obtain rfl := Option.some.inj ho
      have l4 := hd ⟨4, .data⟩ (by simp) rfl
      obtain rfl := f4 l4
      have hcc := (cell4 qz).2.2.2
      refine wpOp_step rfl fun K hK => ?_
      have F0X := Lib.hid f0
      have F1X := Lib.hid f1
      have F2X := Lib.hid f2
      have F4X := Lib.hid f4
      have F5X := Lib.hid f5
      have F6X := Lib.hid f6
      have U8X := Lib.hid u8
      have QBX := Lib.hid qb
      have QZX := Lib.hid qz
      have G0X := Lib.hid g0
      have G3X := Lib.hid g3
      have G7X := Lib.hid g7
      have E8X := Lib.hid e8
      have R8X := Lib.hid r8
      have R7X := Lib.hid r7
      clear f0 f1 f2 f4 f5 f6 u8 qb qz g0 g3 g7 e8 r8 r7 hd ho hL l4
      go_simp
      refine hK _ _ ?_
      exact ⟨_, _, _, _, _, _, _, _, _, rfl, F0X.out, F1X.out, F2X.out, F4X.out, fun _ => rfl, F6X.out, U8X.out, QBX.out, QZX.out, G0X.out, G3X.out, G7X.out, E8X.out, R8X.out, R7X.out⟩
    · obtain rfl := Option.some.inj ho
      have l5 := hd ⟨5, .data⟩ (by simp) rfl
      obtain rfl := f5 l5
      refine wpOp_step rfl fun K hK => ?_
      have F0X := Lib.hid f0
      have F1X := Lib.hid f1
      have F2X := Lib.hid f2
      have F4X := Lib.hid f4
      have F5X := Lib.hid f5
      have F6X := Lib.hid f6
      have U8X := Lib.hid u8
      have QBX := Lib.hid qb
      have QZX := Lib.hid qz
      have G0X := Lib.hid g0
      have G3X := Lib.hid g3
      have G7X := Lib.hid g7
      have E8X := Lib.hid e8
      have R8X := Lib.hid r8
      have R7X := Lib.hid r7
      clear f0 f1 f2 f4 f5 f6 u8 qb qz g0 g3 g7 e8 r8 r7 hd ho hL l5
      go_simp
      refine hK _ _ ?_
      exact ⟨_, _, _, _, _, _, _, _, _, rfl, F0X.out, F1X.out, F2X.out, F4X.out, F5X.out, fun _ => rfl, U8X.out, QBX.out, QZX.out, G0X.out, G3X.out, G7X.out, E8X.out, R8X.out, R7X.out⟩
    · obtain rfl := Option.some.inj ho
      have l3 := hd ⟨3, .data⟩ (by simp) rfl
      have l6 := hd ⟨6, .data⟩ (by simp) rfl
      obtain rfl := f6 l6
      have h8 : L 8 = false := by cases hq : L 8 with | false => rfl | true => (have := r8 hq; simp [hL] at this)
      have H8X := Lib.hid h8
      clear h8
      have HG3X := Lib.hid (g3 l3 hL)
      have L3X := Lib.hid l3
      have HC := Lib.hid (number_any B (q.length : Nat) HQ.out t20 _ W (g3 l3 hL).1 (by have := HL4.out; simp; omega) (HT.out.on qb))
      refine wpOp_step rfl fun K hK => ?_
      have F0X := Lib.hid f0
      have F1X := Lib.hid f1
      have F2X := Lib.hid f2
      have F4X := Lib.hid f4
      have F5X := Lib.hid f5
      have F6X := Lib.hid f6
      have U8X := Lib.hid u8
      have QBX := Lib.hid qb
      have QZX := Lib.hid qz
      have G0X := Lib.hid g0
      have G3X := Lib.hid g3
      have G7X := Lib.hid g7
      have E8X := Lib.hid e8
      have R8X := Lib.hid r8
      have R7X := Lib.hid r7
      clear f0 f1 f2 f4 f5 f6 u8 qb qz g0 g3 g7 e8 r8 r7 hd ho hL l3 l6
      go_simp
      refine HC.out.mono ?_
      rintro _ w1 ⟨v6, rfl, hB6, hG6⟩
      refine hK _ _ ?_
      exact ⟨_, _, _, _, _, _, _, _, _, rfl, F0X.out, F1X.out, F2X.out, F4X.out, F5X.out, F6X.out, U8X.out, QBX.out.trans (HG3X.out.1.low hG6), (hG6.keep QZX.out (HG3X.out.1.own QZX.out (by decide))).1, fun h => absurd (show L 3 = false from h) (by simp [L3X.out]), nofun, fun _ => ⟨hB6, HG3X.out.2.trans hG6⟩, fun h => absurd (show L 8 = true from h) (by simp [H8X.out]), fun h => ⟨(R8X.out h).1, rfl⟩, fun _ => L3X.out⟩
    · obtain rfl := Option.some.inj ho
      have l7 := hd ⟨7, .data⟩ (by simp) rfl
      have l0 := hd ⟨0, .phase⟩ (by simp) rfl
      obtain rfl := f0 l0
      have L0X := Lib.hid (And.intro l0 l7)
      refine wpOp_step rfl fun K hK => ?_
      have F0X := Lib.hid f0
      have F1X := Lib.hid f1
      have F2X := Lib.hid f2
      have F4X := Lib.hid f4
      have F5X := Lib.hid f5
      have F6X := Lib.hid f6
      have U8X := Lib.hid u8
      have QBX := Lib.hid qb
      have QZX := Lib.hid qz
      have G0X := Lib.hid g0
      have G3X := Lib.hid g3
      have G7X := Lib.hid g7
      have E8X := Lib.hid e8
      have R8X := Lib.hid r8
      have R7X := Lib.hid r7
      clear f0 f1 f2 f4 f5 f6 u8 qb qz g0 g3 g7 e8 r8 r7 hd ho hL l7 l0
      go_simp
      refine hK _ _ ?_
      exact ⟨_, _, _, _, _, _, _, _, t24, rfl, F0X.out, F1X.out, F2X.out, F4X.out, F5X.out, F6X.out, nofun, QBX.out, QZX.out, G0X.out, G3X.out, G7X.out, fun _ => rfl, fun _ => L0X.out, R7X.out⟩
    · simp at ho
  · rintro L _ W ⟨t17, t18, t19, t20, t21, t22, t23, t24, t0, rfl, f0, f1, f2, f4, f5, f6, u8, qb, qz, g0, g3, g7, e8, r8, r7⟩ hall
    obtain rfl := f0 (hall 0 (by decide))
    obtain rfl := f1 (hall 1 (by decide))
    obtain rfl := f2 (hall 2 (by decide))
    obtain rfl := f4 (hall 4 (by decide))
    obtain rfl := f5 (hall 5 (by decide))
    obtain rfl := f6 (hall 6 (by decide))
    have h7 := hall 7 (by decide)
    have h8 := hall 8 (by decide)
    obtain rfl := e8 h8
    have HB7 := Lib.hid (g7 h7).1
    have HG7 := Lib.hid (g7 h7).2
    have HK7 := Lib.hid qz
    clear g0 g3 g7 e8 r8 r7 qb qz h7 h8 hall u8
    obtain ⟨L7, hL7⟩ : ∃ L7, L7 = L4 ++ (Lib.itoa n ++ [32]) ++ (Lib.itoa (q.length : Nat) ++ [32]) := ⟨_, rfl⟩
    rw [← hL7] at HB7
    have HL7 : Hid (L7.length + (mks q).length ≤ 999999999000) := by have := HL4.out; rw [Hid, hL7]; simp; omega
    have HE7 : Hid (L7 ++ mks q = l ++ (Lib.itoa k ++ 32 :: (s ++ 32 :: (Lib.itoa n ++ 32 :: (Lib.itoa (q.length : Nat) ++ 32 :: mks q))))) := by rw [Hid, hL7, HLE.out]; simp
    obtain ⟨m, hm⟩ : ∃ m, m = q.length := ⟨_, rfl⟩
    rw [← hm]
    have HM := Lib.hid hm
    have hm64 : m ≤ 64 := by have := mis_len (vld_own HV.out).1; omega
    obtain ⟨c0, c1, c2, c3⟩ := cell4 HK7.out
    rw [← hm] at c3
    clear hL7 hm c0 c1 c2 HK7 HL4 HLE HQ HN HB4 HB4D HLOW4 HGR4 HK4 HL HBB1 HG1 HZ
    go_wp2_with fail
    go_loopw [0, 28] (fun bv iv wr => ∃ i : Nat, i ≤ m ∧ iv = .int .i64 (i : Nat) ∧ Hid (Buf B wr bv (L7 ++ mks (q.take i))) ∧ Hid (Grw w v wr bv)) (fun _ iv _ => m - (intOf iv).toNat)
    case atStart => exact ⟨0, by omega, rfl, Lib.hid (by simpa [mks] using HB7.out), HG7⟩
    case round =>
      obtain ⟨i, hi, rfl, HB, HG⟩ := hrel
      have hlow := HB0.out.low HG.out
      by_cases hlt : i < m
      · have hil : (i : Int) < (m : Int) := by omega
        have hlt1 : i < q.length := by have := HM.out; omega
        obtain ⟨b, o, k', s', n', p, C, cb, rfl, hSb, hx, c0, c1, c2, c3, hrep⟩ := trow_get HROW.out hlow HS.out hlt1
        have hmem : q[i] ∈ q := List.getElem_mem hlt1
        have hvx := vld_sub HV.out hmem
        have hW := HIH.out _ hmem
        have hjt : mks (q.take (i + 1)) = mks (q.take i) ++ mk q[i] := by rw [List.take_succ_eq_append_getElem hlt1, mks_app]; simp [mks]
        have hjl : (mks (q.take (i + 1))).length ≤ (mks q).length := by
          have := mks_app (q.take (i + 1)) (q.drop (i + 1))
          rw [List.take_append_drop] at this
          rw [this, List.length_append]
          omega
        have hbX : Below wr.heap.size wr (wr.alloc (.cells #[.int .i64 k', .string ⟨⟨s'⟩⟩, .int .i64 n', .slice C p.length cb] 33)) := (Below.refl _ _).alloc (Nat.le_refl _) _
        have hBX := HB.out.bel hbX
        have hGX := HG.out.trans (Grw.below hbX)
        rw [hx] at hvx hW hjt
        have hcall := hW B (d + 1) S u0 _ _ (wr.alloc (.cells #[.int .i64 k', .string ⟨⟨s'⟩⟩, .int .i64 n', .slice C p.length cb] 33)) hvx hBX (rep_at hrep (hbX.mono HB.out.2) HS.out) HS.out (by have := HL7.out; rw [hjt, List.length_append] at hjl; rw [List.length_append]; omega) (HT.out.on (HB0.out.low hGX))
        have HC := Lib.hid hcall
        have HGX := Lib.hid hGX
        have HJ := Lib.hid hjt
        clear hcall hGX hBX hbX hjt hW hmem hrep hx hlow hjl hvx
        go_wp2_with fail
        refine HC.out.mono ?_
        rintro _ w5 ⟨v5, rfl, hB5, hG5⟩
        have HB5 := Lib.hid hB5
        have HG5 := Lib.hid (HGX.out.trans hG5)
        clear hB5 hG5 HC
        go_wp2
        go_roundw
        case rel => exact ⟨i + 1, by omega, by go_num, Lib.hid (by have := HB5.out; rw [HJ.out]; simpa using this), HG5⟩
        case measure => simp [intOf]; omega
      · obtain rfl : i = m := by omega
        have hie : q.take i = q := List.take_of_length_le (by have := HM.out; omega)
        have hbe := HB.out
        rw [hie, HE7.out] at hbe
        have HBE := Lib.hid hbe
        clear hlow hie HE7 hbe
        go_wp2
        go_ret
        exact ⟨_, rfl, HBE.out, HG.out⟩
theorem lay_any : ∀ x, LaySaid x := Tm.ind (fun k s n q ih => lay_of k s n q ih)

/-- How long a mark is. -/
theorem mks_le : ∀ (l : List Tm) (W : World) (S : Nat → Prop) (xs : List Value), (∀ x ∈ l, ∀ v, Rep W S x v → (mk x).length ≤ 107 * sz x) → Els W S l xs → (mks l).length ≤ 107 * Te.Tt.szs l
  | [], _, _, _, _, _ => by simp [mks, Te.Tt.szs]
  | x :: r, W, S, v0 :: v1 :: v2 :: v3 :: xs, h, he => by
    rw [Els] at he
    have h1 := h x (by simp) _ he.1
    have h2 := mks_le r W S xs (fun y hy => h y (by simp [hy])) he.2
    rw [mks, Te.Tt.szs, List.length_append]
    omega
  | _ :: _, _, _, [], _, h => by simp [Els] at h
  | _ :: _, _, _, [_], _, h => by simp [Els] at h
  | _ :: _, _, _, [_, _], _, h => by simp [Els] at h
  | _ :: _, _, _, [_, _, _], _, h => by simp [Els] at h
theorem mk_le (W : World) (S : Nat → Prop) : ∀ (x : Tm) (d : Nat) (v : Value), vld d x = true → Rep W S x v → (mk x).length ≤ 107 * sz x := Tm.ind (by
  intro k s n l ih d v hv hr
  obtain ⟨A, ca, rfl, hn, hrow⟩ := rep_mk.1 hr
  have hm := (vld_own hv).1
  have hk := mis_k hm
  have hl := mis_len hm
  have hs : s.length ≤ 40 := by
    rw [mis] at hm
    rcases mis_kinds (by rw [mis]; exact hm) with ⟨_, h, _⟩ | ⟨_, rfl, _⟩ | ⟨rfl, _, rfl⟩ | ⟨_, rfl, _⟩ | ⟨_, rfl, _⟩ | ⟨_, rfl, _⟩
    · simp only [isName, Bool.and_eq_true, decide_eq_true_eq] at h; omega
    · simp
    · simp at hm
      by_cases h0 : s = []
      · simp [h0]
      · have h := hm.1 h0
        simp only [isName, Bool.and_eq_true, decide_eq_true_eq] at h; omega
    · simp
    · simp
    · simp
  have h1 := itoa_len k ⟨by omega, by omega⟩
  have h2 := itoa_len n hn
  have h3 := itoa_len (l.length : Nat) ⟨by omega, by omega⟩
  have h4 : (mks l).length ≤ 107 * Te.Tt.szs l := by
    rcases hrow with rfl | ⟨b, o, _, _, hreps⟩
    · simp [mks, Te.Tt.szs]
    · obtain ⟨xs, he, -⟩ := reps_els l o hreps
      exact mks_le l W S xs (fun x hx v hr => ih x hx (d + 1) v (vld_sub hv hx) hr) he
  rw [mk, sz]
  simp only [List.length_append, List.length_cons]
  omega)

set_option maxHeartbeats 400000 in
set_option maxRecDepth 100000 in
theorem mark_any (x : Tm) (d : Nat) (S : Nat → Prop) (vx : Value) (w : World) (hv : vld d x = true) (hsz : sz x ≤ 1000000) (hr : Rep w S x vx) (hS : ∀ b, S b → b < w.heap.size) (htab : TabB w.heap.size w) :
    Calls Tryd.prog 40 #[vx] w fun e w' => e = .returned (.string ⟨⟨mk x⟩⟩) ∧ Below w.heap.size w w' := by
  have hlen := mk_le w S x d vx hv hr
  have hw := fun W h1 h2 => lay_any x w.heap.size d S (.slice none 0 0) vx [] W hv h1 h2 hS
  obtain ⟨T, hT⟩ : ∃ T, T = mk x := ⟨_, rfl⟩
  rw [← hT] at hw hlen ⊢
  clear hT
  obtain ⟨k, s, n, q⟩ := x
  have hr0 := hr
  obtain ⟨A, ca, rfl, -, -⟩ := rep_mk.1 hr
  have hb1 : Below w.heap.size w (w.alloc (.cells #[.int .i64 k, .string ⟨⟨s⟩⟩, .int .i64 n, .slice A q.length ca] 33)) := (Below.refl _ _).alloc (Nat.le_refl _) _
  have hB0 := Buf.nil (w.alloc (.cells #[.int .i64 k, .string ⟨⟨s⟩⟩, .int .i64 n, .slice A q.length ca] 33)) w.heap.size hb1.size
  have HW := Lib.hid (hw _ hB0 (rep_below hr0 hb1 hS) (by simp; omega) (htab.on hb1))
  have HB0 := Lib.hid hB0
  have HB1 := Lib.hid hb1
  clear hw hr hr0 hS htab hb1 hB0 hsz hv hlen
  go_enter Tryd.func40, Tryd.ntmps40
  go_wp2_with fail
  refine HW.out.mono ?_
  rintro _ w2 ⟨v2, rfl, hB2, hG2⟩
  have hcv := hB2.conv
  rw [List.nil_append] at hcv
  have HL := Lib.hid (HB1.out.trans (HB0.out.low hG2))
  clear hB2 hG2 HW
  go_wp2
  go_ret
  exact ⟨rfl, HL.out⟩
end Go.Proofs.YtiidooponlbnmaaDoor.Kn
