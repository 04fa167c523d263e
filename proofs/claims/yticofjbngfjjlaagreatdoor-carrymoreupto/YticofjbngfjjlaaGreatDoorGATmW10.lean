/- write, list, keyed, Text. -/
import Derived.Test.YticofjbngfjjlaaGreatDoorGAHmW3
import Derived.Lib.ItoaLen
namespace Go.Proofs.YticofjbngfjjlaaGreatDoor.Te
open Go.RowKit
open Tt

def WriteSaid (x : Tm) : Prop := ∀ (B d : Nat) (di : Int) (S : Nat → Prop) (v vx : Value) (l : List UInt8) (w : World), di = d → d + sz x ≤ 262144 → Buf B w v l → Rep w S x vx → (∀ b, S b → b < B) → l.length + (text x).length ≤ 999999999000 → TabB B w →
  Calls Tryz.prog 165 #[v, .int .i64 di, vx] w fun e w' => ∃ v', e = .returned v' ∧ Buf B w' v' (l ++ text x) ∧ Grw w v w' v'

theorem itoa_len (n : Int) (h : InR n) : (Lib.itoa n).length ≤ 21 := Lib.itoa_length_le n h.1 h.2

set_option maxHeartbeats 2000000 in
set_option maxRecDepth 100000 in
theorem writeK_any (B : Nat) (di : Int) (hd : ¬ (262144 : Int) < di) (s : List UInt8) (n : Int) (hn : InR n) (c ca : Nat) (A : Option Addr) (v : Value) (l : List UInt8) (w : World) (hb : Buf B w v l) (hl : l.length + s.length ≤ 999999999000) (htab : TabB B w) :
    Calls Tryz.prog 165 #[v, .int .i64 di, .agg #[.int .i64 2, .string ⟨⟨s⟩⟩, .int .i64 n, .slice A c ca]] w fun e w' => ∃ v', e = .returned v' ∧ Buf B w' v' (l ++ ([107, 101, 121, 40] ++ s ++ 32 :: (Lib.itoa n ++ [41]))) ∧ Grw w v w' v' := by
  have hit := itoa_len n hn
  obtain ⟨z, hz⟩ : ∃ z, z = w.heap.size := ⟨_, rfl⟩
  have HZ := Lib.hid hz
  have HTAB := Lib.hid htab
  have HBUF0 := Lib.hid hb
  have hb1 : Below w.heap.size w (w.alloc (.cells #[.int .i64 2, .string ⟨⟨s⟩⟩, .int .i64 n, .slice A c ca] 25)).drew := ((Below.refl _ _).alloc (Nat.le_refl _) _).drew
  have HBUF := Lib.hid (hb.bel hb1)
  have HGRW := Lib.hid (Grw.below (v := v) hb1)
  have HBOX : Hid ((w.alloc (.cells #[.int .i64 2, .string ⟨⟨s⟩⟩, .int .i64 n, .slice A c ca] 25)).drew.heap[z]? = some (.cells #[.int .i64 2, .string ⟨⟨s⟩⟩, .int .i64 n, .slice A c ca] 25 (0, 0))) := by rw [Hid, hz]; exact heap_alloc_new w _
  clear hb hb1 hz htab
  go_enter Tryz.func165, Tryz.ntmps165
  go_wp2_with fail
  rw [← HZ.out]
  refine wp_region_inv (by kernel_rfl) (fun L a W => ∃ u0 t28 t29 t30 t31 t32 cur curl, a = { tmps := #[u0, .int .i64 di, .agg #[.int .i64 2, .string ⟨⟨s⟩⟩, .int .i64 n, .slice A c ca], undef, undef, .pointer (some ⟨z, 0, none⟩), .slice none 0 0, .int .i64 di, .bool false, undef, undef, undef, .pointer (some ⟨z, 0, none⟩), .int .i64 2, .bool false, .bool false, undef, undef, undef, undef, .bool false, .bool false, undef, undef, undef, undef, .bool true, .bool true, t28, t29, t30, t31, t32, undef, undef, undef, undef, undef, undef, undef, undef, undef, undef, undef, undef, undef, undef, undef, undef, undef, undef, undef, undef, undef, undef, undef, undef, undef, undef, undef, undef, undef, undef], defers := [] } ∧ Buf B W cur curl ∧ Grw w v W cur ∧ W.heap[z]? = some (.cells #[.int .i64 2, .string ⟨⟨s⟩⟩, .int .i64 n, .slice A c ca] 25 (0, 0)) ∧ (L 0 = false → v = u0) ∧ (L 5 = true → cur = u0) ∧ (L 5 = true → L 4 = true) ∧ (L 0 = true → v = t28) ∧ (L 2 = true → .pointer (some ⟨z, 1, none⟩) = t30) ∧ (L 3 = true → .string ⟨⟨s⟩⟩ = t31) ∧ (L 1 = false → v = cur ∧ curl = l) ∧ (L 1 = true → L 4 = false → cur = t29 ∧ curl = l ++ [107, 101, 121, 40]) ∧ (L 4 = true → cur = t32 ∧ curl = l ++ [107, 101, 121, 40] ++ s) ∧ (L 4 = true → L 1 = true)) (by kernel_rfl) ⟨_, _, _, _, _, _, _, _, rfl, HBUF.out, HGRW.out, HBOX.out, fun _ => rfl, nofun, nofun, nofun, nofun, nofun, fun _ => ⟨rfl, rfl⟩, nofun, nofun, nofun⟩ ?_ ?_
  · rintro L _ W i oo ⟨u0, t28, t29, t30, t31, t32, cur, curl, rfl, hb, hg, bx, fu, fz, fy, f0, f2, f3, s0, s1, s2, r1⟩ ho hL hd
    rcases i with _ | _ | _ | _ | _ | _ | i
    · obtain rfl := Option.some.inj ho
      obtain rfl := fu hL
      refine wpOp_step rfl fun K hK => ?_
      have FUX := Lib.hid fu
      have FZX := Lib.hid fz
      have FYX := Lib.hid fy
      have F0X := Lib.hid f0
      have F2X := Lib.hid f2
      have F3X := Lib.hid f3
      have S0X := Lib.hid s0
      have S1X := Lib.hid s1
      have S2X := Lib.hid s2
      have R1X := Lib.hid r1
      have HBX := Lib.hid hb
      have HGX := Lib.hid hg
      have BXX := Lib.hid bx
      clear fu fz fy f0 f2 f3 s0 s1 s2 r1 hb hg bx hd ho hL
      go_simp
      refine hK _ _ ?_
      exact ⟨_, _, _, _, _, _, cur, curl, rfl, HBX.out, HGX.out, BXX.out, nofun, FZX.out, FYX.out, fun _ => rfl, F2X.out, F3X.out, S0X.out, S1X.out, S2X.out, R1X.out⟩
    · obtain rfl := Option.some.inj ho
      obtain ⟨rfl, hcl⟩ := s0 hL
      obtain rfl := f0 (hd ⟨0, .data⟩ (by simp) rfl)
      obtain ⟨v1, w1, hr, hB1, hG1⟩ := run_appS hb [107, 101, 121, 40] (by rw [hcl]; first | omega | (simp; omega))
      have l4 : L 4 = false := by cases hq : L 4 with | false => rfl | true => rw [r1 hq] at hL; cases hL
      have LZ : Hid (L 5 = false) := by cases hq : L 5 with | false => exact rfl | true => rw [fy hq] at l4; cases l4
      refine wpOp_step rfl fun K hK => ?_
      refine op_append_run _ rfl (.tmp 28) (.const (.string ⟨⟨[107, 101, 121, 40]⟩⟩)) 31 9 rfl _ _ rfl rfl hr ?_
      have FUX := Lib.hid fu
      have FZX := Lib.hid fz
      have FYX := Lib.hid fy
      have F0X := Lib.hid f0
      have F2X := Lib.hid f2
      have F3X := Lib.hid f3
      have S0X := Lib.hid s0
      have S1X := Lib.hid s1
      have S2X := Lib.hid s2
      have R1X := Lib.hid r1
      have HBX := Lib.hid hb
      have HGX := Lib.hid hg
      have BXX := Lib.hid bx
      refine hK _ _ ?_
      exact ⟨_, _, _, _, _, _, v1, _, rfl, hB1, HGX.out.trans hG1, (hG1.keep BXX.out (HBX.out.own BXX.out (by decide))).1, FUX.out, fun h => absurd (show L 5 = true from h) (by simp [LZ.out]), FYX.out, F0X.out, F2X.out, F3X.out, nofun, fun _ _ => ⟨rfl, by simp [hcl]⟩, fun h => absurd (show L 4 = true from h) (by simp [l4]), fun _ => rfl⟩
    · obtain rfl := Option.some.inj ho
      refine wpOp_step rfl fun K hK => ?_
      have FUX := Lib.hid fu
      have FZX := Lib.hid fz
      have FYX := Lib.hid fy
      have F0X := Lib.hid f0
      have F2X := Lib.hid f2
      have F3X := Lib.hid f3
      have S0X := Lib.hid s0
      have S1X := Lib.hid s1
      have S2X := Lib.hid s2
      have R1X := Lib.hid r1
      have HBX := Lib.hid hb
      have HGX := Lib.hid hg
      have BXX := Lib.hid bx
      clear fu fz fy f0 f2 f3 s0 s1 s2 r1 hb hg bx hd ho hL
      go_simp
      refine hK _ _ ?_
      exact ⟨_, _, _, _, _, _, cur, curl, rfl, HBX.out, HGX.out, BXX.out, FUX.out, FZX.out, FYX.out, F0X.out, fun _ => rfl, F3X.out, S0X.out, S1X.out, S2X.out, R1X.out⟩
    · obtain rfl := Option.some.inj ho
      obtain rfl := f2 (hd ⟨2, .data⟩ (by simp) rfl)
      obtain ⟨c0, c1, c2, c3⟩ := cell4 bx
      refine wpOp_step rfl fun K hK => ?_
      have FUX := Lib.hid fu
      have FZX := Lib.hid fz
      have FYX := Lib.hid fy
      have F0X := Lib.hid f0
      have F2X := Lib.hid f2
      have F3X := Lib.hid f3
      have S0X := Lib.hid s0
      have S1X := Lib.hid s1
      have S2X := Lib.hid s2
      have R1X := Lib.hid r1
      have HBX := Lib.hid hb
      have HGX := Lib.hid hg
      have BXX := Lib.hid bx
      clear fu fz fy f0 f2 f3 s0 s1 s2 r1 hb hg bx hd ho hL
      go_simp
      refine hK _ _ ?_
      exact ⟨_, _, _, _, _, _, cur, curl, rfl, HBX.out, HGX.out, BXX.out, FUX.out, FZX.out, FYX.out, F0X.out, F2X.out, fun _ => rfl, S0X.out, S1X.out, S2X.out, R1X.out⟩
    · obtain rfl := Option.some.inj ho
      obtain ⟨rfl, hcl⟩ := s1 (hd ⟨1, .data⟩ (by simp) rfl) hL
      obtain rfl := f3 (hd ⟨3, .data⟩ (by simp) rfl)
      obtain ⟨v1, w1, hr, hB1, hG1⟩ := run_appS hb s (by rw [hcl]; first | omega | (simp; omega))
      have LP1 := Lib.hid (hd ⟨1, .data⟩ (by simp) rfl)
      have LZ : Hid (L 5 = false) := by cases hq : L 5 with | false => exact rfl | true => rw [fy hq] at hL; cases hL
      refine wpOp_step rfl fun K hK => ?_
      refine op_append_run _ rfl (.tmp 29) (.tmp 31) 31 9 rfl _ _ rfl rfl hr ?_
      have FUX := Lib.hid fu
      have FZX := Lib.hid fz
      have FYX := Lib.hid fy
      have F0X := Lib.hid f0
      have F2X := Lib.hid f2
      have F3X := Lib.hid f3
      have S0X := Lib.hid s0
      have S1X := Lib.hid s1
      have S2X := Lib.hid s2
      have R1X := Lib.hid r1
      have HBX := Lib.hid hb
      have HGX := Lib.hid hg
      have BXX := Lib.hid bx
      refine hK _ _ ?_
      exact ⟨_, _, _, _, _, _, v1, _, rfl, hB1, HGX.out.trans hG1, (hG1.keep BXX.out (HBX.out.own BXX.out (by decide))).1, FUX.out, fun h => absurd (show L 5 = true from h) (by simp [LZ.out]), fun _ => rfl, F0X.out, F2X.out, F3X.out, fun h => absurd (show L 1 = false from h) (by simp [LP1.out]), fun _ => nofun, fun _ => ⟨rfl, by simp [hcl]⟩, fun _ => LP1.out⟩
    · obtain rfl := Option.some.inj ho
      obtain ⟨rfl, hcl⟩ := s2 (hd ⟨4, .data⟩ (by simp) rfl)
      have LL := Lib.hid (hd ⟨4, .data⟩ (by simp) rfl)
      have L0 := Lib.hid (hd ⟨0, .phase⟩ (by simp) rfl)
      refine wpOp_step rfl fun K hK => ?_
      have FUX := Lib.hid fu
      have FZX := Lib.hid fz
      have FYX := Lib.hid fy
      have F0X := Lib.hid f0
      have F2X := Lib.hid f2
      have F3X := Lib.hid f3
      have S0X := Lib.hid s0
      have S1X := Lib.hid s1
      have S2X := Lib.hid s2
      have R1X := Lib.hid r1
      have HBX := Lib.hid hb
      have HGX := Lib.hid hg
      have BXX := Lib.hid bx
      clear fu fz fy f0 f2 f3 s0 s1 s2 r1 hb hg bx hd ho hL
      go_simp
      refine hK _ _ ?_
      exact ⟨_, _, _, _, _, _, cur, curl, rfl, HBX.out, HGX.out, BXX.out, fun h => absurd (show L 0 = false from h) (by simp [L0.out]), fun _ => rfl, fun _ => LL.out, F0X.out, F2X.out, F3X.out, S0X.out, S1X.out, S2X.out, R1X.out⟩
    · simp at ho
  · rintro L _ W ⟨u0, t28, t29, t30, t31, t32, cur, curl, rfl, hb, hg, bx, fu, fz, fy, f0, f2, f3, s0, s1, s2, r1⟩ hall
    obtain rfl := fz (hall 5 (by simp))
    obtain ⟨-, hcl⟩ := s2 (hall 4 (by simp))
    subst hcl
    have HBUF := Lib.hid hb
    have HGRW := Lib.hid hg
    have HBOX := Lib.hid bx
    clear fu fz fy f0 f2 f3 s0 s1 s2 r1 hb hg bx hall
    obtain ⟨c9, hc9⟩ : ∃ c9, c9 = cur := ⟨_, rfl⟩
    subst hc9
    have HB9 := Lib.hid (HBUF.out.bel (Below.refl _ _).drew)
    have HG9 := Lib.hid (HGRW.out.trans (Grw.below (v := c9) (Below.refl _ W).drew))
    have HX9 : Hid (W.drew.heap[z]? = _) := HBOX.out
    clear HBUF HGRW HBOX
    have HBUF := HB9
    have HGRW := HG9
    have HBOX := HX9
    clear HB9 HG9 HX9
    go_wp2_with fail
    refine wp_region_inv (by kernel_rfl) (fun L a W => ∃ u0 t33 t34 t35 t36 t37 t38 t39 t40 cur curl, a = { tmps := #[c9, .int .i64 di, .agg #[.int .i64 2, .string ⟨⟨s⟩⟩, .int .i64 n, .slice A c ca], undef, undef, .pointer (some ⟨z, 0, none⟩), u0, .int .i64 di, .bool false, undef, undef, undef, .pointer (some ⟨z, 0, none⟩), .int .i64 2, .bool false, .bool false, undef, undef, undef, undef, .bool false, .bool false, undef, undef, undef, undef, .bool true, .bool true, t28, t29, t30, t31, t32, t33, t34, t35, t36, t37, t38, t39, t40, undef, undef, undef, undef, undef, undef, undef, undef, undef, undef, undef, undef, undef, undef, undef, undef, undef, undef, undef, undef, undef, undef], defers := [] } ∧ Buf B W cur curl ∧ Grw w v W cur ∧ W.heap[z]? = some (.cells #[.int .i64 2, .string ⟨⟨s⟩⟩, .int .i64 n, .slice A c ca] 25 (0, 0)) ∧ (True) ∧ (L 8 = true → cur = u0) ∧ (L 8 = true → L 7 = true) ∧ (L 0 = true → c9 = t33) ∧ (L 3 = true → .pointer (some ⟨z, 2, none⟩) = t36) ∧ (L 4 = true → .int .i64 n = t37) ∧ (L 1 = true → L 2 = false → ∃ h, (.slice (some ⟨h, 0, none⟩) 1 1 : Value) = t34 ∧ W.heap[h]? = some (.cells #[.int .u8 ((32 : UInt8).toNat : Nat)] 5 (0, 0)) ∧ some h ≠ cur.ownBlock) ∧ (L 6 = true → L 7 = false → ∃ h, (.slice (some ⟨h, 0, none⟩) 1 1 : Value) = t39 ∧ W.heap[h]? = some (.cells #[.int .u8 ((41 : UInt8).toNat : Nat)] 5 (0, 0)) ∧ some h ≠ cur.ownBlock) ∧ (L 2 = false → c9 = cur ∧ curl = l ++ [107, 101, 121, 40] ++ s) ∧ (L 2 = true → L 5 = false → cur = t35 ∧ curl = l ++ [107, 101, 121, 40] ++ s ++ [32]) ∧ (L 5 = true → L 7 = false → cur = t38 ∧ curl = l ++ [107, 101, 121, 40] ++ s ++ [32] ++ Lib.itoa n) ∧ (L 7 = true → cur = t40 ∧ curl = l ++ [107, 101, 121, 40] ++ s ++ [32] ++ Lib.itoa n ++ [41]) ∧ (L 5 = true → L 2 = true) ∧ (L 7 = true → L 5 = true)) (by kernel_rfl) ⟨_, _, _, _, _, _, _, _, _, _, _, rfl, HBUF.out, HGRW.out, HBOX.out, trivial, nofun, nofun, nofun, nofun, nofun, nofun, nofun, fun _ => ⟨rfl, rfl⟩, nofun, nofun, nofun, nofun, nofun⟩ ?_ ?_
    · rintro L _ W i oo ⟨u0, t33, t34, t35, t36, t37, t38, t39, t40, cur, curl, rfl, hb, hg, bx, fu, fz, fy, f0, f3, f4, f1, f6, s0, s1, s2, s3, r1, r2⟩ ho hL hd
      rcases i with _ | _ | _ | _ | _ | _ | _ | _ | _ | i
      · obtain rfl := Option.some.inj ho
        refine wpOp_step rfl fun K hK => ?_
        have FUX := Lib.hid fu
        have FZX := Lib.hid fz
        have FYX := Lib.hid fy
        have F0X := Lib.hid f0
        have F3X := Lib.hid f3
        have F4X := Lib.hid f4
        have F1X := Lib.hid f1
        have F6X := Lib.hid f6
        have S0X := Lib.hid s0
        have S1X := Lib.hid s1
        have S2X := Lib.hid s2
        have S3X := Lib.hid s3
        have R1X := Lib.hid r1
        have R2X := Lib.hid r2
        have HBX := Lib.hid hb
        have HGX := Lib.hid hg
        have BXX := Lib.hid bx
        clear fu fz fy f0 f3 f4 f1 f6 s0 s1 s2 s3 r1 r2 hb hg bx hd ho hL
        go_simp
        refine hK _ _ ?_
        exact ⟨_, _, _, _, _, _, _, _, _, cur, curl, rfl, HBX.out, HGX.out, BXX.out, FUX.out, FZX.out, FYX.out, fun _ => rfl, F3X.out, F4X.out, F1X.out, F6X.out, S0X.out, S1X.out, S2X.out, S3X.out, R1X.out, R2X.out⟩
      · obtain rfl := Option.some.inj ho
        refine wpOp_step rfl fun K hK => ?_
        have FUX := Lib.hid fu
        have FZX := Lib.hid fz
        have FYX := Lib.hid fy
        have F0X := Lib.hid f0
        have F3X := Lib.hid f3
        have F4X := Lib.hid f4
        have F1X := Lib.hid f1
        have F6X := Lib.hid f6
        have S0X := Lib.hid s0
        have S1X := Lib.hid s1
        have S2X := Lib.hid s2
        have S3X := Lib.hid s3
        have R1X := Lib.hid r1
        have R2X := Lib.hid r2
        have HBX := Lib.hid hb
        have HGX := Lib.hid hg
        have BXX := Lib.hid bx
        clear fu fz fy f0 f3 f4 f1 f6 s0 s1 s2 s3 r1 r2 hb hg bx hd ho hL
        go_simp
        refine hK _ _ ?_
        exact ⟨_, _, _, _, _, _, _, _, _, cur, curl, rfl, HBX.out.bel ((Below.refl _ _).alloc (Nat.le_refl _) _), HGX.out.trans (Grw.alloc _ _ _), (heap_alloc_old W _ (Array.getElem?_eq_some_iff.1 BXX.out).1).trans BXX.out, FUX.out, FZX.out, FYX.out, F0X.out, F3X.out, F4X.out, fun _ _ => ⟨_, rfl, heap_alloc_new W _, HBX.out.old (Nat.le_refl _)⟩, fun h1 h2 => by obtain ⟨h, e, hh, hn⟩ := F6X.out h1 h2; exact ⟨h, e, (heap_alloc_old W _ (Array.getElem?_eq_some_iff.1 hh).1).trans hh, hn⟩, S0X.out, S1X.out, S2X.out, S3X.out, R1X.out, R2X.out⟩
      · obtain rfl := Option.some.inj ho
        obtain ⟨rfl, hcl⟩ := s0 hL
        obtain ⟨h, rfl, hh, hn⟩ := f1 (hd ⟨1, .data⟩ (by simp) rfl) hL
        obtain rfl := f0 (hd ⟨0, .data⟩ (by simp) rfl)
        obtain ⟨v1, w1, hr, hB1, hG1⟩ := run_app hb [32] ⟨h, 0, none⟩ 1 (cell_byte' hh) (by rw [hcl]; first | omega | (simp; omega))
        have l5 : L 5 = false := by cases hq : L 5 with | false => rfl | true => rw [r1 hq] at hL; cases hL
        have l7 : L 7 = false := by cases hq : L 7 with | false => rfl | true => rw [r2 hq] at l5; cases l5
        have LZ : Hid (L 8 = false) := by cases hq : L 8 with | false => exact rfl | true => rw [fy hq] at l7; cases l7
        refine wpOp_step rfl fun K hK => ?_
        refine op_append_run _ rfl (.tmp 33) (.tmp 34) 31 31 rfl _ _ rfl rfl hr ?_
        have FUX := Lib.hid fu
        have FZX := Lib.hid fz
        have FYX := Lib.hid fy
        have F0X := Lib.hid f0
        have F3X := Lib.hid f3
        have F4X := Lib.hid f4
        have F1X := Lib.hid f1
        have F6X := Lib.hid f6
        have S0X := Lib.hid s0
        have S1X := Lib.hid s1
        have S2X := Lib.hid s2
        have S3X := Lib.hid s3
        have R1X := Lib.hid r1
        have R2X := Lib.hid r2
        have HBX := Lib.hid hb
        have HGX := Lib.hid hg
        have BXX := Lib.hid bx
        refine hK _ _ ?_
        exact ⟨_, _, _, _, _, _, _, _, _, v1, _, rfl, hB1, HGX.out.trans hG1, (hG1.keep BXX.out (HBX.out.own BXX.out (by decide))).1, FUX.out, fun h => absurd (show L 8 = true from h) (by simp [LZ.out]), FYX.out, F0X.out, F3X.out, F4X.out, nofun, fun h1 h2 => by obtain ⟨h, e, hh, hn⟩ := F6X.out h1 h2; obtain ⟨a1, a2⟩ := hG1.keep hh hn; exact ⟨h, e, a1, a2⟩, nofun, fun _ _ => ⟨rfl, by simp [hcl]⟩, fun h => absurd (show L 5 = true from h) (by simp [l5]), fun h => absurd (show L 7 = true from h) (by simp [l7]), fun _ => rfl, R2X.out⟩
      · obtain rfl := Option.some.inj ho
        refine wpOp_step rfl fun K hK => ?_
        have FUX := Lib.hid fu
        have FZX := Lib.hid fz
        have FYX := Lib.hid fy
        have F0X := Lib.hid f0
        have F3X := Lib.hid f3
        have F4X := Lib.hid f4
        have F1X := Lib.hid f1
        have F6X := Lib.hid f6
        have S0X := Lib.hid s0
        have S1X := Lib.hid s1
        have S2X := Lib.hid s2
        have S3X := Lib.hid s3
        have R1X := Lib.hid r1
        have R2X := Lib.hid r2
        have HBX := Lib.hid hb
        have HGX := Lib.hid hg
        have BXX := Lib.hid bx
        clear fu fz fy f0 f3 f4 f1 f6 s0 s1 s2 s3 r1 r2 hb hg bx hd ho hL
        go_simp
        refine hK _ _ ?_
        exact ⟨_, _, _, _, _, _, _, _, _, cur, curl, rfl, HBX.out, HGX.out, BXX.out, FUX.out, FZX.out, FYX.out, F0X.out, fun _ => rfl, F4X.out, F1X.out, F6X.out, S0X.out, S1X.out, S2X.out, S3X.out, R1X.out, R2X.out⟩
      · obtain rfl := Option.some.inj ho
        obtain rfl := f3 (hd ⟨3, .data⟩ (by simp) rfl)
        obtain ⟨c0, c1, c2, c3⟩ := cell4 bx
        refine wpOp_step rfl fun K hK => ?_
        have FUX := Lib.hid fu
        have FZX := Lib.hid fz
        have FYX := Lib.hid fy
        have F0X := Lib.hid f0
        have F3X := Lib.hid f3
        have F4X := Lib.hid f4
        have F1X := Lib.hid f1
        have F6X := Lib.hid f6
        have S0X := Lib.hid s0
        have S1X := Lib.hid s1
        have S2X := Lib.hid s2
        have S3X := Lib.hid s3
        have R1X := Lib.hid r1
        have R2X := Lib.hid r2
        have HBX := Lib.hid hb
        have HGX := Lib.hid hg
        have BXX := Lib.hid bx
        clear fu fz fy f0 f3 f4 f1 f6 s0 s1 s2 s3 r1 r2 hb hg bx hd ho hL
        go_simp
        refine hK _ _ ?_
        exact ⟨_, _, _, _, _, _, _, _, _, cur, curl, rfl, HBX.out, HGX.out, BXX.out, FUX.out, FZX.out, FYX.out, F0X.out, F3X.out, fun _ => rfl, F1X.out, F6X.out, S0X.out, S1X.out, S2X.out, S3X.out, R1X.out, R2X.out⟩
      · obtain rfl := Option.some.inj ho
        obtain ⟨rfl, hcl⟩ := s1 (hd ⟨2, .data⟩ (by simp) rfl) hL
        obtain rfl := f4 (hd ⟨4, .data⟩ (by simp) rfl)
        have hlow := HBUF0.out.low hg
        have HC := Lib.hid (number_any B n hn cur _ W hb (by rw [hcl]; first | omega | (simp; omega)) (HTAB.out.on hlow))
        clear hlow
        have l7 : L 7 = false := by cases hq : L 7 with | false => rfl | true => rw [r2 hq] at hL; cases hL
        have LP2 := Lib.hid (hd ⟨2, .data⟩ (by simp) rfl)
        have LZ : Hid (L 8 = false) := by cases hq : L 8 with | false => exact rfl | true => rw [fy hq] at l7; cases l7
        refine wpOp_step rfl fun K hK => ?_
        have FUX := Lib.hid fu
        have FZX := Lib.hid fz
        have FYX := Lib.hid fy
        have F0X := Lib.hid f0
        have F3X := Lib.hid f3
        have F4X := Lib.hid f4
        have F1X := Lib.hid f1
        have F6X := Lib.hid f6
        have S0X := Lib.hid s0
        have S1X := Lib.hid s1
        have S2X := Lib.hid s2
        have S3X := Lib.hid s3
        have R1X := Lib.hid r1
        have R2X := Lib.hid r2
        have HBX := Lib.hid hb
        have HGX := Lib.hid hg
        have BXX := Lib.hid bx
        have L7X := Lib.hid l7
        clear fu fz fy f0 f3 f4 f1 f6 s0 s1 s2 s3 r1 r2 hb hg bx hd ho hL l7
        go_simp
        refine HC.out.mono ?_
        rintro _ w1 ⟨v1, rfl, hB1, hG1⟩
        refine hK _ _ ?_
        exact ⟨_, _, _, _, _, _, _, _, _, v1, _, rfl, hB1, HGX.out.trans hG1, (hG1.keep BXX.out (HBX.out.own BXX.out (by decide))).1, FUX.out, fun h => absurd (show L 8 = true from h) (by simp [LZ.out]), FYX.out, F0X.out, F3X.out, F4X.out, fun h1 h2 => by obtain ⟨h, e, hh, hn⟩ := F1X.out h1 h2; obtain ⟨a1, a2⟩ := hG1.keep hh hn; exact ⟨h, e, a1, a2⟩, fun h1 h2 => by obtain ⟨h, e, hh, hn⟩ := F6X.out h1 h2; obtain ⟨a1, a2⟩ := hG1.keep hh hn; exact ⟨h, e, a1, a2⟩, fun h => absurd (show L 2 = false from h) (by simp [LP2.out]), fun _ => nofun, fun _ _ => ⟨rfl, by simp [hcl]⟩, fun h => absurd (show L 7 = true from h) (by simp [L7X.out]), fun _ => LP2.out, fun _ => rfl⟩
      · obtain rfl := Option.some.inj ho
        refine wpOp_step rfl fun K hK => ?_
        have FUX := Lib.hid fu
        have FZX := Lib.hid fz
        have FYX := Lib.hid fy
        have F0X := Lib.hid f0
        have F3X := Lib.hid f3
        have F4X := Lib.hid f4
        have F1X := Lib.hid f1
        have F6X := Lib.hid f6
        have S0X := Lib.hid s0
        have S1X := Lib.hid s1
        have S2X := Lib.hid s2
        have S3X := Lib.hid s3
        have R1X := Lib.hid r1
        have R2X := Lib.hid r2
        have HBX := Lib.hid hb
        have HGX := Lib.hid hg
        have BXX := Lib.hid bx
        clear fu fz fy f0 f3 f4 f1 f6 s0 s1 s2 s3 r1 r2 hb hg bx hd ho hL
        go_simp
        refine hK _ _ ?_
        exact ⟨_, _, _, _, _, _, _, _, _, cur, curl, rfl, HBX.out.bel ((Below.refl _ _).alloc (Nat.le_refl _) _), HGX.out.trans (Grw.alloc _ _ _), (heap_alloc_old W _ (Array.getElem?_eq_some_iff.1 BXX.out).1).trans BXX.out, FUX.out, FZX.out, FYX.out, F0X.out, F3X.out, F4X.out, fun h1 h2 => by obtain ⟨h, e, hh, hn⟩ := F1X.out h1 h2; exact ⟨h, e, (heap_alloc_old W _ (Array.getElem?_eq_some_iff.1 hh).1).trans hh, hn⟩, fun _ _ => ⟨_, rfl, heap_alloc_new W _, HBX.out.old (Nat.le_refl _)⟩, S0X.out, S1X.out, S2X.out, S3X.out, R1X.out, R2X.out⟩
      · obtain rfl := Option.some.inj ho
        obtain ⟨rfl, hcl⟩ := s2 (hd ⟨5, .data⟩ (by simp) rfl) hL
        obtain ⟨h, rfl, hh, hn⟩ := f6 (hd ⟨6, .data⟩ (by simp) rfl) hL
        obtain ⟨v1, w1, hr, hB1, hG1⟩ := run_app hb [41] ⟨h, 0, none⟩ 1 (cell_byte' hh) (by rw [hcl]; first | omega | (simp; omega))
        have LP5 := Lib.hid (hd ⟨5, .data⟩ (by simp) rfl)
        have LP2 := Lib.hid (r1 LP5.out)
        have LZ : Hid (L 8 = false) := by cases hq : L 8 with | false => exact rfl | true => rw [fy hq] at hL; cases hL
        refine wpOp_step rfl fun K hK => ?_
        refine op_append_run _ rfl (.tmp 38) (.tmp 39) 31 31 rfl _ _ rfl rfl hr ?_
        have FUX := Lib.hid fu
        have FZX := Lib.hid fz
        have FYX := Lib.hid fy
        have F0X := Lib.hid f0
        have F3X := Lib.hid f3
        have F4X := Lib.hid f4
        have F1X := Lib.hid f1
        have F6X := Lib.hid f6
        have S0X := Lib.hid s0
        have S1X := Lib.hid s1
        have S2X := Lib.hid s2
        have S3X := Lib.hid s3
        have R1X := Lib.hid r1
        have R2X := Lib.hid r2
        have HBX := Lib.hid hb
        have HGX := Lib.hid hg
        have BXX := Lib.hid bx
        refine hK _ _ ?_
        exact ⟨_, _, _, _, _, _, _, _, _, v1, _, rfl, hB1, HGX.out.trans hG1, (hG1.keep BXX.out (HBX.out.own BXX.out (by decide))).1, FUX.out, fun h => absurd (show L 8 = true from h) (by simp [LZ.out]), fun _ => rfl, F0X.out, F3X.out, F4X.out, fun h1 h2 => by obtain ⟨h, e, hh, hn⟩ := F1X.out h1 h2; obtain ⟨a1, a2⟩ := hG1.keep hh hn; exact ⟨h, e, a1, a2⟩, nofun, fun h => absurd (show L 2 = false from h) (by simp [LP2.out]), fun h1 h2 => absurd (show L 5 = false from h2) (by simp [LP5.out]), fun _ => nofun, fun _ => ⟨rfl, by simp [hcl]⟩, R1X.out, fun _ => LP5.out⟩
      · obtain rfl := Option.some.inj ho
        obtain ⟨rfl, hcl⟩ := s3 (hd ⟨7, .data⟩ (by simp) rfl)
        have LL := Lib.hid (hd ⟨7, .data⟩ (by simp) rfl)
        refine wpOp_step rfl fun K hK => ?_
        have FUX := Lib.hid fu
        have FZX := Lib.hid fz
        have FYX := Lib.hid fy
        have F0X := Lib.hid f0
        have F3X := Lib.hid f3
        have F4X := Lib.hid f4
        have F1X := Lib.hid f1
        have F6X := Lib.hid f6
        have S0X := Lib.hid s0
        have S1X := Lib.hid s1
        have S2X := Lib.hid s2
        have S3X := Lib.hid s3
        have R1X := Lib.hid r1
        have R2X := Lib.hid r2
        have HBX := Lib.hid hb
        have HGX := Lib.hid hg
        have BXX := Lib.hid bx
        clear fu fz fy f0 f3 f4 f1 f6 s0 s1 s2 s3 r1 r2 hb hg bx hd ho hL
        go_simp
        refine hK _ _ ?_
        exact ⟨_, _, _, _, _, _, _, _, _, cur, curl, rfl, HBX.out, HGX.out, BXX.out, FUX.out, fun _ => rfl, fun _ => LL.out, F0X.out, F3X.out, F4X.out, F1X.out, F6X.out, S0X.out, S1X.out, S2X.out, S3X.out, R1X.out, R2X.out⟩
      · simp at ho
    · rintro L _ W ⟨u0, t33, t34, t35, t36, t37, t38, t39, t40, cur, curl, rfl, hb, hg, bx, fu, fz, fy, f0, f3, f4, f1, f6, s0, s1, s2, s3, r1, r2⟩ hall
      obtain rfl := fz (hall 8 (by simp))
      obtain ⟨-, hcl⟩ := s3 (hall 7 (by simp))
      subst hcl
      have HBUF := Lib.hid hb
      have HGRW := Lib.hid hg
      have HBOX := Lib.hid bx
      clear fu fz fy f0 f3 f4 f1 f6 s0 s1 s2 s3 r1 r2 hb hg bx hall
      go_wp2
      go_ret
      refine ⟨_, rfl, ?_, HGRW.out⟩
      have := HBUF.out
      simpa using this

theorem trow_two_get {w : World} {S : Nat → Prop} {x y : Tm} {A : Option Addr} (h : TRow w S [x, y] A) : ∃ b o x0 x1 x2 x3 y0 y1 y2 y3, A = some ⟨b, o, none⟩ ∧ S b ∧ w.cell? ⟨b, o, none⟩ = some x0 ∧ w.cell? ⟨b, o + 1, none⟩ = some x1 ∧ w.cell? ⟨b, o + 2, none⟩ = some x2 ∧ w.cell? ⟨b, o + 3, none⟩ = some x3 ∧
    w.cell? ⟨b, o + 4, none⟩ = some y0 ∧ w.cell? ⟨b, o + 5, none⟩ = some y1 ∧ w.cell? ⟨b, o + 6, none⟩ = some y2 ∧ w.cell? ⟨b, o + 7, none⟩ = some y3 ∧ Rep w S x (.agg #[x0, x1, x2, x3]) ∧ Rep w S y (.agg #[y0, y1, y2, y3]) := by
  rcases h with h | ⟨b, o, rfl, hb, hr⟩
  · cases h
  · rw [Reps, Reps] at hr
    obtain ⟨⟨x0, x1, x2, x3, h0, h1, h2, h3, h4⟩, ⟨y0, y1, y2, y3, g0, g1, g2, g3, g4⟩, -⟩ := hr
    exact ⟨b, o, x0, x1, x2, x3, y0, y1, y2, y3, rfl, hb, h0, h1, h2, h3, g0, g1, g2, g3, h4, g4⟩

set_option maxHeartbeats 2000000 in
set_option maxRecDepth 100000 in
theorem keyed_any (x y : Tm) (hx : WriteSaid x) (hy : WriteSaid y) (B d : Nat) (di : Int) (hdi : di = d) (hszx : d + 1 + sz x ≤ 262144) (hszy : d + 1 + sz y ≤ 262144) (k : Int) (hs s : List UInt8) (n : Int) (hn : InR n) (ca : Nat) (A : Option Addr) (S : Nat → Prop) (v : Value) (l : List UInt8) (w : World) (hb : Buf B w v l)
    (hr : TRow w S [x, y] A) (hS : ∀ b, S b → b < B) (hl : l.length + hs.length + (text x).length + (text y).length + (Lib.itoa n).length + 3 ≤ 999999999000) (htab : TabB B w) :
    Calls Tryz.prog 193 #[v, .string ⟨⟨hs⟩⟩, .int .i64 di, .agg #[.int .i64 k, .string ⟨⟨s⟩⟩, .int .i64 n, .slice A 2 ca]] w fun e w' => ∃ v', e = .returned v' ∧ Buf B w' v' (l ++ (hs ++ text x ++ 32 :: (Lib.itoa n ++ 32 :: (text y ++ [41])))) ∧ Grw w v w' v' := by
  have hit := itoa_len n hn
  obtain ⟨b1, o1, x0, x1, x2, x3, y0, y1, y2, y3, rfl, hb1S, q0, q1, q2, q3, p0, p1, p2, p3, rx, ry⟩ := trow_two_get hr
  have hbB := hS b1 hb1S
  obtain ⟨TX, hTX⟩ : ∃ TX, TX = text x := ⟨_, rfl⟩
  obtain ⟨TY, hTY⟩ : ∃ TY, TY = text y := ⟨_, rfl⟩
  have HX : Hid (∀ (v : Value) (l : List UInt8) (W : World), Below B w W → Buf B W v l → l.length + TX.length ≤ 999999999000 → Calls Tryz.prog 165 #[v, .int .i64 (di + 1), .agg #[x0, x1, x2, x3]] W fun e w' => ∃ v', e = .returned v' ∧ Buf B w' v' (l ++ TX) ∧ Grw W v w' v') := fun v l W h1 h2 h3 => by
    rw [hTX] at h3 ⊢
    exact hx B (d + 1) (di + 1) S v _ l W (by omega) hszx h2 (rep_at rx h1 hS) hS h3 (htab.on h1)
  have HY : Hid (∀ (v : Value) (l : List UInt8) (W : World), Below B w W → Buf B W v l → l.length + TY.length ≤ 999999999000 → Calls Tryz.prog 165 #[v, .int .i64 (di + 1), .agg #[y0, y1, y2, y3]] W fun e w' => ∃ v', e = .returned v' ∧ Buf B w' v' (l ++ TY) ∧ Grw W v w' v') := fun v l W h1 h2 h3 => by
    rw [hTY] at h3 ⊢
    exact hy B (d + 1) (di + 1) S v _ l W (by omega) hszy h2 (rep_at ry h1 hS) hS h3 (htab.on h1)
  rw [← hTX, ← hTY] at hl ⊢
  have hdl : di ≤ 262144 ∧ 0 ≤ di := by omega
  have hwd : IntKind.i64.wrap (di + 1) = di + 1 := by rw [IntKind.wrap_i64]; omega
  have QX := Lib.hid (And.intro q0 (And.intro q1 (And.intro q2 q3)))
  have QY := Lib.hid (And.intro p0 (And.intro p1 (And.intro p2 p3)))
  obtain ⟨z, hz⟩ : ∃ z, z = w.heap.size := ⟨_, rfl⟩
  have HZ := Lib.hid hz
  have HTAB := Lib.hid htab
  have HBUF0 := Lib.hid hb
  have hb1 : Below w.heap.size w (w.alloc (.cells #[.int .i64 k, .string ⟨⟨s⟩⟩, .int .i64 n, .slice (some ⟨b1, o1, none⟩) 2 ca] 25)).drew := ((Below.refl _ _).alloc (Nat.le_refl _) _).drew
  have HBUF := Lib.hid (hb.bel hb1)
  have HGRW := Lib.hid (Grw.below (v := v) hb1)
  have HBOX : Hid ((w.alloc (.cells #[.int .i64 k, .string ⟨⟨s⟩⟩, .int .i64 n, .slice (some ⟨b1, o1, none⟩) 2 ca] 25)).drew.heap[z]? = some (.cells #[.int .i64 k, .string ⟨⟨s⟩⟩, .int .i64 n, .slice (some ⟨b1, o1, none⟩) 2 ca] 25 (0, 0))) := by rw [Hid, hz]; exact heap_alloc_new w _
  clear hb hb1 hz htab hr hS rx ry q0 q1 q2 q3 p0 p1 p2 p3 hx hy hdi hszx hszy hTX hTY hb1S
  go_enter Tryz.func193, Tryz.ntmps193
  go_wp2_with fail
  rw [← HZ.out]
  refine wp_region_inv (by kernel_rfl) (fun L a W => ∃ u0 t16 t17 t18 t19 t20 t21 t22 t23 t24 t25 cur curl, a = { tmps := #[u0, .string ⟨⟨hs⟩⟩, .int .i64 di, .agg #[.int .i64 k, .string ⟨⟨s⟩⟩, .int .i64 n, .slice (some ⟨b1, o1, none⟩) 2 ca], undef, undef, undef, .pointer (some ⟨z, 0, none⟩), .slice none 0 0, .pointer (some ⟨z, 3, none⟩), .slice (some ⟨b1, o1, none⟩) 2 ca, .int .i64 2, .bool false, undef, undef, undef, t16, t17, t18, t19, t20, t21, t22, t23, t24, t25, undef, undef, undef, undef, undef, undef, undef, undef, undef, undef, undef, undef, undef, undef, undef, undef, undef, undef, undef], defers := [] } ∧ Buf B W cur curl ∧ Grw w v W cur ∧ W.heap[z]? = some (.cells #[.int .i64 k, .string ⟨⟨s⟩⟩, .int .i64 n, .slice (some ⟨b1, o1, none⟩) 2 ca] 25 (0, 0)) ∧ (L 0 = false → v = u0) ∧ (L 10 = true → cur = u0) ∧ (L 10 = true → L 9 = true) ∧ (L 0 = true → v = t16) ∧ (L 1 = true → .string ⟨⟨hs⟩⟩ = t17) ∧ (L 3 = true → .int .i64 di = t19) ∧ (L 4 = true → .int .i64 (di + 1) = t20) ∧ (L 5 = true → .pointer (some ⟨z, 3, none⟩) = t21) ∧ (L 6 = true → .slice (some ⟨b1, o1, none⟩) 2 ca = t22) ∧ (L 7 = true → .pointer (some ⟨b1, o1, none⟩) = t23) ∧ (L 8 = true → .agg #[x0, x1, x2, x3] = t24) ∧ (L 2 = false → v = cur ∧ curl = l) ∧ (L 2 = true → L 9 = false → cur = t18 ∧ curl = l ++ hs) ∧ (L 9 = true → cur = t25 ∧ curl = l ++ hs ++ TX) ∧ (L 9 = true → L 2 = true)) (by kernel_rfl) ⟨_, _, _, _, _, _, _, _, _, _, _, _, _, rfl, HBUF.out, HGRW.out, HBOX.out, fun _ => rfl, nofun, nofun, nofun, nofun, nofun, nofun, nofun, nofun, nofun, nofun, fun _ => ⟨rfl, rfl⟩, nofun, nofun, nofun⟩ ?_ ?_
  · rintro L _ W i oo ⟨u0, t16, t17, t18, t19, t20, t21, t22, t23, t24, t25, cur, curl, rfl, hb, hg, bx, fu, fz, fy, f0, f1, f3, f4, f5, f6, f7, f8, s0, s1, s2, r1⟩ ho hL hd
    rcases i with _ | _ | _ | _ | _ | _ | _ | _ | _ | _ | _ | i
    · obtain rfl := Option.some.inj ho
      obtain rfl := fu hL
      refine wpOp_step rfl fun K hK => ?_
      have FUX := Lib.hid fu
      have FZX := Lib.hid fz
      have FYX := Lib.hid fy
      have F0X := Lib.hid f0
      have F1X := Lib.hid f1
      have F3X := Lib.hid f3
      have F4X := Lib.hid f4
      have F5X := Lib.hid f5
      have F6X := Lib.hid f6
      have F7X := Lib.hid f7
      have F8X := Lib.hid f8
      have S0X := Lib.hid s0
      have S1X := Lib.hid s1
      have S2X := Lib.hid s2
      have R1X := Lib.hid r1
      have HBX := Lib.hid hb
      have HGX := Lib.hid hg
      have BXX := Lib.hid bx
      clear fu fz fy f0 f1 f3 f4 f5 f6 f7 f8 s0 s1 s2 r1 hb hg bx hd ho hL
      go_simp
      refine hK _ _ ?_
      exact ⟨_, _, _, _, _, _, _, _, _, _, _, cur, curl, rfl, HBX.out, HGX.out, BXX.out, nofun, FZX.out, FYX.out, fun _ => rfl, F1X.out, F3X.out, F4X.out, F5X.out, F6X.out, F7X.out, F8X.out, S0X.out, S1X.out, S2X.out, R1X.out⟩
    · obtain rfl := Option.some.inj ho
      refine wpOp_step rfl fun K hK => ?_
      have FUX := Lib.hid fu
      have FZX := Lib.hid fz
      have FYX := Lib.hid fy
      have F0X := Lib.hid f0
      have F1X := Lib.hid f1
      have F3X := Lib.hid f3
      have F4X := Lib.hid f4
      have F5X := Lib.hid f5
      have F6X := Lib.hid f6
      have F7X := Lib.hid f7
      have F8X := Lib.hid f8
      have S0X := Lib.hid s0
      have S1X := Lib.hid s1
      have S2X := Lib.hid s2
      have R1X := Lib.hid r1
      have HBX := Lib.hid hb
      have HGX := Lib.hid hg
      have BXX := Lib.hid bx
      clear fu fz fy f0 f1 f3 f4 f5 f6 f7 f8 s0 s1 s2 r1 hb hg bx hd ho hL
      go_simp
      refine hK _ _ ?_
      exact ⟨_, _, _, _, _, _, _, _, _, _, _, cur, curl, rfl, HBX.out, HGX.out, BXX.out, FUX.out, FZX.out, FYX.out, F0X.out, fun _ => rfl, F3X.out, F4X.out, F5X.out, F6X.out, F7X.out, F8X.out, S0X.out, S1X.out, S2X.out, R1X.out⟩
    · obtain rfl := Option.some.inj ho
      obtain ⟨rfl, hcl⟩ := s0 hL
      obtain rfl := f1 (hd ⟨1, .data⟩ (by simp) rfl)
      obtain rfl := f0 (hd ⟨0, .data⟩ (by simp) rfl)
      obtain ⟨v1, w1, hr, hB1, hG1⟩ := run_appS hb hs (by rw [hcl]; first | omega | (simp; omega))
      have l9 : L 9 = false := by cases hq : L 9 with | false => rfl | true => rw [r1 hq] at hL; cases hL
      have LZ : Hid (L 10 = false) := by cases hq : L 10 with | false => exact rfl | true => rw [fy hq] at l9; cases l9
      refine wpOp_step rfl fun K hK => ?_
      refine op_append_run _ rfl (.tmp 16) (.tmp 17) 31 9 rfl _ _ rfl rfl hr ?_
      have FUX := Lib.hid fu
      have FZX := Lib.hid fz
      have FYX := Lib.hid fy
      have F0X := Lib.hid f0
      have F1X := Lib.hid f1
      have F3X := Lib.hid f3
      have F4X := Lib.hid f4
      have F5X := Lib.hid f5
      have F6X := Lib.hid f6
      have F7X := Lib.hid f7
      have F8X := Lib.hid f8
      have S0X := Lib.hid s0
      have S1X := Lib.hid s1
      have S2X := Lib.hid s2
      have R1X := Lib.hid r1
      have HBX := Lib.hid hb
      have HGX := Lib.hid hg
      have BXX := Lib.hid bx
      refine hK _ _ ?_
      exact ⟨_, _, _, _, _, _, _, _, _, _, _, v1, _, rfl, hB1, HGX.out.trans hG1, (hG1.keep BXX.out (HBX.out.own BXX.out (by decide))).1, FUX.out, fun h => absurd (show L 10 = true from h) (by simp [LZ.out]), FYX.out, F0X.out, F1X.out, F3X.out, F4X.out, F5X.out, F6X.out, F7X.out, F8X.out, nofun, fun _ _ => ⟨rfl, by simp [hcl]⟩, fun h => absurd (show L 9 = true from h) (by simp [l9]), fun _ => rfl⟩
    · obtain rfl := Option.some.inj ho
      refine wpOp_step rfl fun K hK => ?_
      have FUX := Lib.hid fu
      have FZX := Lib.hid fz
      have FYX := Lib.hid fy
      have F0X := Lib.hid f0
      have F1X := Lib.hid f1
      have F3X := Lib.hid f3
      have F4X := Lib.hid f4
      have F5X := Lib.hid f5
      have F6X := Lib.hid f6
      have F7X := Lib.hid f7
      have F8X := Lib.hid f8
      have S0X := Lib.hid s0
      have S1X := Lib.hid s1
      have S2X := Lib.hid s2
      have R1X := Lib.hid r1
      have HBX := Lib.hid hb
      have HGX := Lib.hid hg
      have BXX := Lib.hid bx
      clear fu fz fy f0 f1 f3 f4 f5 f6 f7 f8 s0 s1 s2 r1 hb hg bx hd ho hL
      go_simp
      refine hK _ _ ?_
      exact ⟨_, _, _, _, _, _, _, _, _, _, _, cur, curl, rfl, HBX.out, HGX.out, BXX.out, FUX.out, FZX.out, FYX.out, F0X.out, F1X.out, fun _ => rfl, F4X.out, F5X.out, F6X.out, F7X.out, F8X.out, S0X.out, S1X.out, S2X.out, R1X.out⟩
    · obtain rfl := Option.some.inj ho
      obtain rfl := f3 (hd ⟨3, .data⟩ (by simp) rfl)
      refine wpOp_step rfl fun K hK => ?_
      have FUX := Lib.hid fu
      have FZX := Lib.hid fz
      have FYX := Lib.hid fy
      have F0X := Lib.hid f0
      have F1X := Lib.hid f1
      have F3X := Lib.hid f3
      have F4X := Lib.hid f4
      have F5X := Lib.hid f5
      have F6X := Lib.hid f6
      have F7X := Lib.hid f7
      have F8X := Lib.hid f8
      have S0X := Lib.hid s0
      have S1X := Lib.hid s1
      have S2X := Lib.hid s2
      have R1X := Lib.hid r1
      have HBX := Lib.hid hb
      have HGX := Lib.hid hg
      have BXX := Lib.hid bx
      clear fu fz fy f0 f1 f3 f4 f5 f6 f7 f8 s0 s1 s2 r1 hb hg bx hd ho hL
      go_simp
      refine hK _ _ ?_
      exact ⟨_, _, _, _, _, _, _, _, _, _, _, cur, curl, rfl, HBX.out, HGX.out, BXX.out, FUX.out, FZX.out, FYX.out, F0X.out, F1X.out, F3X.out, fun _ => rfl, F5X.out, F6X.out, F7X.out, F8X.out, S0X.out, S1X.out, S2X.out, R1X.out⟩
    · obtain rfl := Option.some.inj ho
      refine wpOp_step rfl fun K hK => ?_
      have FUX := Lib.hid fu
      have FZX := Lib.hid fz
      have FYX := Lib.hid fy
      have F0X := Lib.hid f0
      have F1X := Lib.hid f1
      have F3X := Lib.hid f3
      have F4X := Lib.hid f4
      have F5X := Lib.hid f5
      have F6X := Lib.hid f6
      have F7X := Lib.hid f7
      have F8X := Lib.hid f8
      have S0X := Lib.hid s0
      have S1X := Lib.hid s1
      have S2X := Lib.hid s2
      have R1X := Lib.hid r1
      have HBX := Lib.hid hb
      have HGX := Lib.hid hg
      have BXX := Lib.hid bx
      clear fu fz fy f0 f1 f3 f4 f5 f6 f7 f8 s0 s1 s2 r1 hb hg bx hd ho hL
      go_simp
      refine hK _ _ ?_
      exact ⟨_, _, _, _, _, _, _, _, _, _, _, cur, curl, rfl, HBX.out, HGX.out, BXX.out, FUX.out, FZX.out, FYX.out, F0X.out, F1X.out, F3X.out, F4X.out, fun _ => rfl, F6X.out, F7X.out, F8X.out, S0X.out, S1X.out, S2X.out, R1X.out⟩
    · obtain rfl := Option.some.inj ho
      obtain rfl := f5 (hd ⟨5, .data⟩ (by simp) rfl)
      obtain ⟨c0, c1, c2, c3⟩ := cell4 bx
      refine wpOp_step rfl fun K hK => ?_
      have FUX := Lib.hid fu
      have FZX := Lib.hid fz
      have FYX := Lib.hid fy
      have F0X := Lib.hid f0
      have F1X := Lib.hid f1
      have F3X := Lib.hid f3
      have F4X := Lib.hid f4
      have F5X := Lib.hid f5
      have F6X := Lib.hid f6
      have F7X := Lib.hid f7
      have F8X := Lib.hid f8
      have S0X := Lib.hid s0
      have S1X := Lib.hid s1
      have S2X := Lib.hid s2
      have R1X := Lib.hid r1
      have HBX := Lib.hid hb
      have HGX := Lib.hid hg
      have BXX := Lib.hid bx
      clear fu fz fy f0 f1 f3 f4 f5 f6 f7 f8 s0 s1 s2 r1 hb hg bx hd ho hL
      go_simp
      refine hK _ _ ?_
      exact ⟨_, _, _, _, _, _, _, _, _, _, _, cur, curl, rfl, HBX.out, HGX.out, BXX.out, FUX.out, FZX.out, FYX.out, F0X.out, F1X.out, F3X.out, F4X.out, F5X.out, fun _ => rfl, F7X.out, F8X.out, S0X.out, S1X.out, S2X.out, R1X.out⟩
    · obtain rfl := Option.some.inj ho
      obtain rfl := f6 (hd ⟨6, .data⟩ (by simp) rfl)
      refine wpOp_step rfl fun K hK => ?_
      have FUX := Lib.hid fu
      have FZX := Lib.hid fz
      have FYX := Lib.hid fy
      have F0X := Lib.hid f0
      have F1X := Lib.hid f1
      have F3X := Lib.hid f3
      have F4X := Lib.hid f4
      have F5X := Lib.hid f5
      have F6X := Lib.hid f6
      have F7X := Lib.hid f7
      have F8X := Lib.hid f8
      have S0X := Lib.hid s0
      have S1X := Lib.hid s1
      have S2X := Lib.hid s2
      have R1X := Lib.hid r1
      have HBX := Lib.hid hb
      have HGX := Lib.hid hg
      have BXX := Lib.hid bx
      clear fu fz fy f0 f1 f3 f4 f5 f6 f7 f8 s0 s1 s2 r1 hb hg bx hd ho hL
      go_simp
      refine hK _ _ ?_
      exact ⟨_, _, _, _, _, _, _, _, _, _, _, cur, curl, rfl, HBX.out, HGX.out, BXX.out, FUX.out, FZX.out, FYX.out, F0X.out, F1X.out, F3X.out, F4X.out, F5X.out, F6X.out, fun _ => rfl, F8X.out, S0X.out, S1X.out, S2X.out, R1X.out⟩
    · obtain rfl := Option.some.inj ho
      obtain rfl := f7 (hd ⟨7, .data⟩ (by simp) rfl)
      have hlow := HBUF0.out.low hg
      obtain ⟨q0, q1, q2, q3⟩ := QX.out
      have e0 := (hlow.cell (p := ⟨b1, o1, none⟩) hbB).trans q0
      have e1 := (hlow.cell (p := ⟨b1, o1 + 1, none⟩) hbB).trans q1
      have e2 := (hlow.cell (p := ⟨b1, o1 + 2, none⟩) hbB).trans q2
      have e3 := (hlow.cell (p := ⟨b1, o1 + 3, none⟩) hbB).trans q3
      clear hlow q0 q1 q2 q3
      refine wpOp_step rfl fun K hK => ?_
      have FUX := Lib.hid fu
      have FZX := Lib.hid fz
      have FYX := Lib.hid fy
      have F0X := Lib.hid f0
      have F1X := Lib.hid f1
      have F3X := Lib.hid f3
      have F4X := Lib.hid f4
      have F5X := Lib.hid f5
      have F6X := Lib.hid f6
      have F7X := Lib.hid f7
      have F8X := Lib.hid f8
      have S0X := Lib.hid s0
      have S1X := Lib.hid s1
      have S2X := Lib.hid s2
      have R1X := Lib.hid r1
      have HBX := Lib.hid hb
      have HGX := Lib.hid hg
      have BXX := Lib.hid bx
      clear fu fz fy f0 f1 f3 f4 f5 f6 f7 f8 s0 s1 s2 r1 hb hg bx hd ho hL
      go_simp
      refine hK _ _ ?_
      exact ⟨_, _, _, _, _, _, _, _, _, _, _, cur, curl, rfl, HBX.out, HGX.out, BXX.out, FUX.out, FZX.out, FYX.out, F0X.out, F1X.out, F3X.out, F4X.out, F5X.out, F6X.out, F7X.out, fun _ => rfl, S0X.out, S1X.out, S2X.out, R1X.out⟩
    · obtain rfl := Option.some.inj ho
      obtain ⟨rfl, hcl⟩ := s1 (hd ⟨2, .data⟩ (by simp) rfl) hL
      obtain rfl := f4 (hd ⟨4, .data⟩ (by simp) rfl)
      obtain rfl := f8 (hd ⟨8, .data⟩ (by simp) rfl)
      have hlow := HBUF0.out.low hg
      have HC := Lib.hid (HX.out cur _ W hlow hb (by rw [hcl]; first | omega | (simp; omega)))
      clear hlow
      have LP2 := Lib.hid (hd ⟨2, .data⟩ (by simp) rfl)
      have LZ : Hid (L 10 = false) := by cases hq : L 10 with | false => exact rfl | true => rw [fy hq] at hL; cases hL
      refine wpOp_step rfl fun K hK => ?_
      have FUX := Lib.hid fu
      have FZX := Lib.hid fz
      have FYX := Lib.hid fy
      have F0X := Lib.hid f0
      have F1X := Lib.hid f1
      have F3X := Lib.hid f3
      have F4X := Lib.hid f4
      have F5X := Lib.hid f5
      have F6X := Lib.hid f6
      have F7X := Lib.hid f7
      have F8X := Lib.hid f8
      have S0X := Lib.hid s0
      have S1X := Lib.hid s1
      have S2X := Lib.hid s2
      have R1X := Lib.hid r1
      have HBX := Lib.hid hb
      have HGX := Lib.hid hg
      have BXX := Lib.hid bx
      clear fu fz fy f0 f1 f3 f4 f5 f6 f7 f8 s0 s1 s2 r1 hb hg bx hd ho hL
      go_simp
      refine HC.out.mono ?_
      rintro _ w1 ⟨v1, rfl, hB1, hG1⟩
      refine hK _ _ ?_
      exact ⟨_, _, _, _, _, _, _, _, _, _, _, v1, _, rfl, hB1, HGX.out.trans hG1, (hG1.keep BXX.out (HBX.out.own BXX.out (by decide))).1, FUX.out, fun h => absurd (show L 10 = true from h) (by simp [LZ.out]), fun _ => rfl, F0X.out, F1X.out, F3X.out, F4X.out, F5X.out, F6X.out, F7X.out, F8X.out, fun h => absurd (show L 2 = false from h) (by simp [LP2.out]), fun _ => nofun, fun _ => ⟨rfl, by simp [hcl]⟩, fun _ => LP2.out⟩
    · obtain rfl := Option.some.inj ho
      obtain ⟨rfl, hcl⟩ := s2 (hd ⟨9, .data⟩ (by simp) rfl)
      have LL := Lib.hid (hd ⟨9, .data⟩ (by simp) rfl)
      have L0 := Lib.hid (hd ⟨0, .phase⟩ (by simp) rfl)
      refine wpOp_step rfl fun K hK => ?_
      have FUX := Lib.hid fu
      have FZX := Lib.hid fz
      have FYX := Lib.hid fy
      have F0X := Lib.hid f0
      have F1X := Lib.hid f1
      have F3X := Lib.hid f3
      have F4X := Lib.hid f4
      have F5X := Lib.hid f5
      have F6X := Lib.hid f6
      have F7X := Lib.hid f7
      have F8X := Lib.hid f8
      have S0X := Lib.hid s0
      have S1X := Lib.hid s1
      have S2X := Lib.hid s2
      have R1X := Lib.hid r1
      have HBX := Lib.hid hb
      have HGX := Lib.hid hg
      have BXX := Lib.hid bx
      clear fu fz fy f0 f1 f3 f4 f5 f6 f7 f8 s0 s1 s2 r1 hb hg bx hd ho hL
      go_simp
      refine hK _ _ ?_
      exact ⟨_, _, _, _, _, _, _, _, _, _, _, cur, curl, rfl, HBX.out, HGX.out, BXX.out, fun h => absurd (show L 0 = false from h) (by simp [L0.out]), fun _ => rfl, fun _ => LL.out, F0X.out, F1X.out, F3X.out, F4X.out, F5X.out, F6X.out, F7X.out, F8X.out, S0X.out, S1X.out, S2X.out, R1X.out⟩
    · simp at ho
  · rintro L _ W ⟨u0, t16, t17, t18, t19, t20, t21, t22, t23, t24, t25, cur, curl, rfl, hb, hg, bx, fu, fz, fy, f0, f1, f3, f4, f5, f6, f7, f8, s0, s1, s2, r1⟩ hall
    obtain rfl := fz (hall 10 (by simp))
    obtain ⟨-, hcl⟩ := s2 (hall 9 (by simp))
    subst hcl
    have HBUF := Lib.hid hb
    have HGRW := Lib.hid hg
    have HBOX := Lib.hid bx
    clear fu fz fy f0 f1 f3 f4 f5 f6 f7 f8 s0 s1 s2 r1 hb hg bx hall
    obtain ⟨c3, hc3⟩ : ∃ c3, c3 = cur := ⟨_, rfl⟩
    subst hc3
    have HB9 := Lib.hid (HBUF.out.bel (Below.refl _ _).drew)
    have HG9 := Lib.hid (HGRW.out.trans (Grw.below (v := c3) (Below.refl _ W).drew))
    have HX9 : Hid (W.drew.heap[z]? = _) := HBOX.out
    clear HBUF HGRW HBOX
    have HBUF := HB9
    have HGRW := HG9
    have HBOX := HX9
    clear HB9 HG9 HX9
    go_wp2_with fail
    refine wp_region_inv (by kernel_rfl) (fun L a W => ∃ u0 t26 t27 t28 t29 t30 t31 cur curl, a = { tmps := #[u0, .string ⟨⟨hs⟩⟩, .int .i64 di, .agg #[.int .i64 k, .string ⟨⟨s⟩⟩, .int .i64 n, .slice (some ⟨b1, o1, none⟩) 2 ca], undef, undef, undef, .pointer (some ⟨z, 0, none⟩), .slice none 0 0, .pointer (some ⟨z, 3, none⟩), .slice (some ⟨b1, o1, none⟩) 2 ca, .int .i64 2, .bool false, undef, undef, undef, t16, t17, t18, t19, t20, t21, t22, t23, t24, t25, t26, t27, t28, t29, t30, t31, undef, undef, undef, undef, undef, undef, undef, undef, undef, undef, undef, undef, undef], defers := [] } ∧ Buf B W cur curl ∧ Grw w v W cur ∧ W.heap[z]? = some (.cells #[.int .i64 k, .string ⟨⟨s⟩⟩, .int .i64 n, .slice (some ⟨b1, o1, none⟩) 2 ca] 25 (0, 0)) ∧ (L 0 = false → c3 = u0) ∧ (L 6 = true → cur = u0) ∧ (L 6 = true → L 5 = true) ∧ (L 0 = true → c3 = t26) ∧ (L 3 = true → .pointer (some ⟨z, 2, none⟩) = t29) ∧ (L 4 = true → .int .i64 n = t30) ∧ (L 1 = true → L 2 = false → ∃ h, (.slice (some ⟨h, 0, none⟩) 1 1 : Value) = t27 ∧ W.heap[h]? = some (.cells #[.int .u8 ((32 : UInt8).toNat : Nat)] 5 (0, 0)) ∧ some h ≠ cur.ownBlock) ∧ (L 2 = false → c3 = cur ∧ curl = l ++ hs ++ TX) ∧ (L 2 = true → L 5 = false → cur = t28 ∧ curl = l ++ hs ++ TX ++ [32]) ∧ (L 5 = true → cur = t31 ∧ curl = l ++ hs ++ TX ++ [32] ++ Lib.itoa n) ∧ (L 5 = true → L 2 = true)) (by kernel_rfl) ⟨_, _, _, _, _, _, _, _, _, rfl, HBUF.out, HGRW.out, HBOX.out, fun _ => rfl, nofun, nofun, nofun, nofun, nofun, nofun, fun _ => ⟨rfl, rfl⟩, nofun, nofun, nofun⟩ ?_ ?_
    · rintro L _ W i oo ⟨u0, t26, t27, t28, t29, t30, t31, cur, curl, rfl, hb, hg, bx, fu, fz, fy, f0, f3, f4, f1, s0, s1, s2, r1⟩ ho hL hd
      rcases i with _ | _ | _ | _ | _ | _ | _ | i
      · obtain rfl := Option.some.inj ho
        obtain rfl := fu hL
        refine wpOp_step rfl fun K hK => ?_
        have FUX := Lib.hid fu
        have FZX := Lib.hid fz
        have FYX := Lib.hid fy
        have F0X := Lib.hid f0
        have F3X := Lib.hid f3
        have F4X := Lib.hid f4
        have F1X := Lib.hid f1
        have S0X := Lib.hid s0
        have S1X := Lib.hid s1
        have S2X := Lib.hid s2
        have R1X := Lib.hid r1
        have HBX := Lib.hid hb
        have HGX := Lib.hid hg
        have BXX := Lib.hid bx
        clear fu fz fy f0 f3 f4 f1 s0 s1 s2 r1 hb hg bx hd ho hL
        go_simp
        refine hK _ _ ?_
        exact ⟨_, _, _, _, _, _, _, cur, curl, rfl, HBX.out, HGX.out, BXX.out, nofun, FZX.out, FYX.out, fun _ => rfl, F3X.out, F4X.out, F1X.out, S0X.out, S1X.out, S2X.out, R1X.out⟩
      · obtain rfl := Option.some.inj ho
        refine wpOp_step rfl fun K hK => ?_
        have FUX := Lib.hid fu
        have FZX := Lib.hid fz
        have FYX := Lib.hid fy
        have F0X := Lib.hid f0
        have F3X := Lib.hid f3
        have F4X := Lib.hid f4
        have F1X := Lib.hid f1
        have S0X := Lib.hid s0
        have S1X := Lib.hid s1
        have S2X := Lib.hid s2
        have R1X := Lib.hid r1
        have HBX := Lib.hid hb
        have HGX := Lib.hid hg
        have BXX := Lib.hid bx
        clear fu fz fy f0 f3 f4 f1 s0 s1 s2 r1 hb hg bx hd ho hL
        go_simp
        refine hK _ _ ?_
        exact ⟨_, _, _, _, _, _, _, cur, curl, rfl, HBX.out.bel ((Below.refl _ _).alloc (Nat.le_refl _) _), HGX.out.trans (Grw.alloc _ _ _), (heap_alloc_old W _ (Array.getElem?_eq_some_iff.1 BXX.out).1).trans BXX.out, FUX.out, FZX.out, FYX.out, F0X.out, F3X.out, F4X.out, fun _ _ => ⟨_, rfl, heap_alloc_new W _, HBX.out.old (Nat.le_refl _)⟩, S0X.out, S1X.out, S2X.out, R1X.out⟩
      · obtain rfl := Option.some.inj ho
        obtain ⟨rfl, hcl⟩ := s0 hL
        obtain ⟨h, rfl, hh, hn⟩ := f1 (hd ⟨1, .data⟩ (by simp) rfl) hL
        obtain rfl := f0 (hd ⟨0, .data⟩ (by simp) rfl)
        obtain ⟨v1, w1, hr, hB1, hG1⟩ := run_app hb [32] ⟨h, 0, none⟩ 1 (cell_byte' hh) (by rw [hcl]; first | omega | (simp; omega))
        have l5 : L 5 = false := by cases hq : L 5 with | false => rfl | true => rw [r1 hq] at hL; cases hL
        have LZ : Hid (L 6 = false) := by cases hq : L 6 with | false => exact rfl | true => rw [fy hq] at l5; cases l5
        refine wpOp_step rfl fun K hK => ?_
        refine op_append_run _ rfl (.tmp 26) (.tmp 27) 31 31 rfl _ _ rfl rfl hr ?_
        have FUX := Lib.hid fu
        have FZX := Lib.hid fz
        have FYX := Lib.hid fy
        have F0X := Lib.hid f0
        have F3X := Lib.hid f3
        have F4X := Lib.hid f4
        have F1X := Lib.hid f1
        have S0X := Lib.hid s0
        have S1X := Lib.hid s1
        have S2X := Lib.hid s2
        have R1X := Lib.hid r1
        have HBX := Lib.hid hb
        have HGX := Lib.hid hg
        have BXX := Lib.hid bx
        refine hK _ _ ?_
        exact ⟨_, _, _, _, _, _, _, v1, _, rfl, hB1, HGX.out.trans hG1, (hG1.keep BXX.out (HBX.out.own BXX.out (by decide))).1, FUX.out, fun h => absurd (show L 6 = true from h) (by simp [LZ.out]), FYX.out, F0X.out, F3X.out, F4X.out, nofun, nofun, fun _ _ => ⟨rfl, by simp [hcl]⟩, fun h => absurd (show L 5 = true from h) (by simp [l5]), fun _ => rfl⟩
      · obtain rfl := Option.some.inj ho
        refine wpOp_step rfl fun K hK => ?_
        have FUX := Lib.hid fu
        have FZX := Lib.hid fz
        have FYX := Lib.hid fy
        have F0X := Lib.hid f0
        have F3X := Lib.hid f3
        have F4X := Lib.hid f4
        have F1X := Lib.hid f1
        have S0X := Lib.hid s0
        have S1X := Lib.hid s1
        have S2X := Lib.hid s2
        have R1X := Lib.hid r1
        have HBX := Lib.hid hb
        have HGX := Lib.hid hg
        have BXX := Lib.hid bx
        clear fu fz fy f0 f3 f4 f1 s0 s1 s2 r1 hb hg bx hd ho hL
        go_simp
        refine hK _ _ ?_
        exact ⟨_, _, _, _, _, _, _, cur, curl, rfl, HBX.out, HGX.out, BXX.out, FUX.out, FZX.out, FYX.out, F0X.out, fun _ => rfl, F4X.out, F1X.out, S0X.out, S1X.out, S2X.out, R1X.out⟩
      · obtain rfl := Option.some.inj ho
        obtain rfl := f3 (hd ⟨3, .data⟩ (by simp) rfl)
        obtain ⟨c0, c1, c2, c3⟩ := cell4 bx
        refine wpOp_step rfl fun K hK => ?_
        have FUX := Lib.hid fu
        have FZX := Lib.hid fz
        have FYX := Lib.hid fy
        have F0X := Lib.hid f0
        have F3X := Lib.hid f3
        have F4X := Lib.hid f4
        have F1X := Lib.hid f1
        have S0X := Lib.hid s0
        have S1X := Lib.hid s1
        have S2X := Lib.hid s2
        have R1X := Lib.hid r1
        have HBX := Lib.hid hb
        have HGX := Lib.hid hg
        have BXX := Lib.hid bx
        clear fu fz fy f0 f3 f4 f1 s0 s1 s2 r1 hb hg bx hd ho hL
        go_simp
        refine hK _ _ ?_
        exact ⟨_, _, _, _, _, _, _, cur, curl, rfl, HBX.out, HGX.out, BXX.out, FUX.out, FZX.out, FYX.out, F0X.out, F3X.out, fun _ => rfl, F1X.out, S0X.out, S1X.out, S2X.out, R1X.out⟩
      · obtain rfl := Option.some.inj ho
        obtain ⟨rfl, hcl⟩ := s1 (hd ⟨2, .data⟩ (by simp) rfl) hL
        obtain rfl := f4 (hd ⟨4, .data⟩ (by simp) rfl)
        have hlow := HBUF0.out.low hg
        have HC := Lib.hid (number_any B n hn cur _ W hb (by rw [hcl]; first | omega | (simp; omega)) (HTAB.out.on hlow))
        clear hlow
        have LP2 := Lib.hid (hd ⟨2, .data⟩ (by simp) rfl)
        have LZ : Hid (L 6 = false) := by cases hq : L 6 with | false => exact rfl | true => rw [fy hq] at hL; cases hL
        refine wpOp_step rfl fun K hK => ?_
        have FUX := Lib.hid fu
        have FZX := Lib.hid fz
        have FYX := Lib.hid fy
        have F0X := Lib.hid f0
        have F3X := Lib.hid f3
        have F4X := Lib.hid f4
        have F1X := Lib.hid f1
        have S0X := Lib.hid s0
        have S1X := Lib.hid s1
        have S2X := Lib.hid s2
        have R1X := Lib.hid r1
        have HBX := Lib.hid hb
        have HGX := Lib.hid hg
        have BXX := Lib.hid bx
        clear fu fz fy f0 f3 f4 f1 s0 s1 s2 r1 hb hg bx hd ho hL
        go_simp
        refine HC.out.mono ?_
        rintro _ w1 ⟨v1, rfl, hB1, hG1⟩
        refine hK _ _ ?_
        exact ⟨_, _, _, _, _, _, _, v1, _, rfl, hB1, HGX.out.trans hG1, (hG1.keep BXX.out (HBX.out.own BXX.out (by decide))).1, FUX.out, fun h => absurd (show L 6 = true from h) (by simp [LZ.out]), fun _ => rfl, F0X.out, F3X.out, F4X.out, fun h1 h2 => by obtain ⟨h, e, hh, hn⟩ := F1X.out h1 h2; obtain ⟨a1, a2⟩ := hG1.keep hh hn; exact ⟨h, e, a1, a2⟩, fun h => absurd (show L 2 = false from h) (by simp [LP2.out]), fun _ => nofun, fun _ => ⟨rfl, by simp [hcl]⟩, fun _ => LP2.out⟩
      · obtain rfl := Option.some.inj ho
        obtain ⟨rfl, hcl⟩ := s2 (hd ⟨5, .data⟩ (by simp) rfl)
        have LL := Lib.hid (hd ⟨5, .data⟩ (by simp) rfl)
        have L0 := Lib.hid (hd ⟨0, .phase⟩ (by simp) rfl)
        refine wpOp_step rfl fun K hK => ?_
        have FUX := Lib.hid fu
        have FZX := Lib.hid fz
        have FYX := Lib.hid fy
        have F0X := Lib.hid f0
        have F3X := Lib.hid f3
        have F4X := Lib.hid f4
        have F1X := Lib.hid f1
        have S0X := Lib.hid s0
        have S1X := Lib.hid s1
        have S2X := Lib.hid s2
        have R1X := Lib.hid r1
        have HBX := Lib.hid hb
        have HGX := Lib.hid hg
        have BXX := Lib.hid bx
        clear fu fz fy f0 f3 f4 f1 s0 s1 s2 r1 hb hg bx hd ho hL
        go_simp
        refine hK _ _ ?_
        exact ⟨_, _, _, _, _, _, _, cur, curl, rfl, HBX.out, HGX.out, BXX.out, fun h => absurd (show L 0 = false from h) (by simp [L0.out]), fun _ => rfl, fun _ => LL.out, F0X.out, F3X.out, F4X.out, F1X.out, S0X.out, S1X.out, S2X.out, R1X.out⟩
      · simp at ho
    · rintro L _ W ⟨u0, t26, t27, t28, t29, t30, t31, cur, curl, rfl, hb, hg, bx, fu, fz, fy, f0, f3, f4, f1, s0, s1, s2, r1⟩ hall
      obtain rfl := fz (hall 6 (by simp))
      obtain ⟨-, hcl⟩ := s2 (hall 5 (by simp))
      subst hcl
      have HBUF := Lib.hid hb
      have HGRW := Lib.hid hg
      have HBOX := Lib.hid bx
      clear fu fz fy f0 f3 f4 f1 s0 s1 s2 r1 hb hg bx hall
      obtain ⟨c4, hc4⟩ : ∃ c4, c4 = cur := ⟨_, rfl⟩
      subst hc4
      have HB9 := Lib.hid (HBUF.out.bel (Below.refl _ _).drew)
      have HG9 := Lib.hid (HGRW.out.trans (Grw.below (v := c4) (Below.refl _ W).drew))
      have HX9 : Hid (W.drew.heap[z]? = _) := HBOX.out
      clear HBUF HGRW HBOX
      have HBUF := HB9
      have HGRW := HG9
      have HBOX := HX9
      clear HB9 HG9 HX9
      go_wp2_with fail
      refine wp_region_inv (by kernel_rfl) (fun L a W => ∃ u0 t32 t33 t34 t35 t36 t37 t38 t39 t40 t41 cur curl, a = { tmps := #[u0, .string ⟨⟨hs⟩⟩, .int .i64 di, .agg #[.int .i64 k, .string ⟨⟨s⟩⟩, .int .i64 n, .slice (some ⟨b1, o1, none⟩) 2 ca], undef, undef, undef, .pointer (some ⟨z, 0, none⟩), .slice none 0 0, .pointer (some ⟨z, 3, none⟩), .slice (some ⟨b1, o1, none⟩) 2 ca, .int .i64 2, .bool false, undef, undef, undef, t16, t17, t18, t19, t20, t21, t22, t23, t24, t25, t26, t27, t28, t29, t30, t31, t32, t33, t34, t35, t36, t37, t38, t39, t40, t41, undef, undef, undef], defers := [] } ∧ Buf B W cur curl ∧ Grw w v W cur ∧ W.heap[z]? = some (.cells #[.int .i64 k, .string ⟨⟨s⟩⟩, .int .i64 n, .slice (some ⟨b1, o1, none⟩) 2 ca] 25 (0, 0)) ∧ (L 0 = false → c4 = u0) ∧ (L 10 = true → cur = u0) ∧ (L 10 = true → L 9 = true) ∧ (L 0 = true → c4 = t32) ∧ (L 3 = true → .int .i64 di = t35) ∧ (L 4 = true → .int .i64 (di + 1) = t36) ∧ (L 5 = true → .pointer (some ⟨z, 3, none⟩) = t37) ∧ (L 6 = true → .slice (some ⟨b1, o1, none⟩) 2 ca = t38) ∧ (L 7 = true → .pointer (some ⟨b1, o1 + 4, none⟩) = t39) ∧ (L 8 = true → .agg #[y0, y1, y2, y3] = t40) ∧ (L 1 = true → L 2 = false → ∃ h, (.slice (some ⟨h, 0, none⟩) 1 1 : Value) = t33 ∧ W.heap[h]? = some (.cells #[.int .u8 ((32 : UInt8).toNat : Nat)] 5 (0, 0)) ∧ some h ≠ cur.ownBlock) ∧ (L 2 = false → c4 = cur ∧ curl = l ++ hs ++ TX ++ [32] ++ Lib.itoa n) ∧ (L 2 = true → L 9 = false → cur = t34 ∧ curl = l ++ hs ++ TX ++ [32] ++ Lib.itoa n ++ [32]) ∧ (L 9 = true → cur = t41 ∧ curl = l ++ hs ++ TX ++ [32] ++ Lib.itoa n ++ [32] ++ TY) ∧ (L 9 = true → L 2 = true)) (by kernel_rfl) ⟨_, _, _, _, _, _, _, _, _, _, _, _, _, rfl, HBUF.out, HGRW.out, HBOX.out, fun _ => rfl, nofun, nofun, nofun, nofun, nofun, nofun, nofun, nofun, nofun, nofun, fun _ => ⟨rfl, rfl⟩, nofun, nofun, nofun⟩ ?_ ?_
      · rintro L _ W i oo ⟨u0, t32, t33, t34, t35, t36, t37, t38, t39, t40, t41, cur, curl, rfl, hb, hg, bx, fu, fz, fy, f0, f3, f4, f5, f6, f7, f8, f1, s0, s1, s2, r1⟩ ho hL hd
        rcases i with _ | _ | _ | _ | _ | _ | _ | _ | _ | _ | _ | i
        · obtain rfl := Option.some.inj ho
          obtain rfl := fu hL
          refine wpOp_step rfl fun K hK => ?_
          have FUX := Lib.hid fu
          have FZX := Lib.hid fz
          have FYX := Lib.hid fy
          have F0X := Lib.hid f0
          have F3X := Lib.hid f3
          have F4X := Lib.hid f4
          have F5X := Lib.hid f5
          have F6X := Lib.hid f6
          have F7X := Lib.hid f7
          have F8X := Lib.hid f8
          have F1X := Lib.hid f1
          have S0X := Lib.hid s0
          have S1X := Lib.hid s1
          have S2X := Lib.hid s2
          have R1X := Lib.hid r1
          have HBX := Lib.hid hb
          have HGX := Lib.hid hg
          have BXX := Lib.hid bx
          clear fu fz fy f0 f3 f4 f5 f6 f7 f8 f1 s0 s1 s2 r1 hb hg bx hd ho hL
          go_simp
          refine hK _ _ ?_
          exact ⟨_, _, _, _, _, _, _, _, _, _, _, cur, curl, rfl, HBX.out, HGX.out, BXX.out, nofun, FZX.out, FYX.out, fun _ => rfl, F3X.out, F4X.out, F5X.out, F6X.out, F7X.out, F8X.out, F1X.out, S0X.out, S1X.out, S2X.out, R1X.out⟩
        · obtain rfl := Option.some.inj ho
          refine wpOp_step rfl fun K hK => ?_
          have FUX := Lib.hid fu
          have FZX := Lib.hid fz
          have FYX := Lib.hid fy
          have F0X := Lib.hid f0
          have F3X := Lib.hid f3
          have F4X := Lib.hid f4
          have F5X := Lib.hid f5
          have F6X := Lib.hid f6
          have F7X := Lib.hid f7
          have F8X := Lib.hid f8
          have F1X := Lib.hid f1
          have S0X := Lib.hid s0
          have S1X := Lib.hid s1
          have S2X := Lib.hid s2
          have R1X := Lib.hid r1
          have HBX := Lib.hid hb
          have HGX := Lib.hid hg
          have BXX := Lib.hid bx
          clear fu fz fy f0 f3 f4 f5 f6 f7 f8 f1 s0 s1 s2 r1 hb hg bx hd ho hL
          go_simp
          refine hK _ _ ?_
          exact ⟨_, _, _, _, _, _, _, _, _, _, _, cur, curl, rfl, HBX.out.bel ((Below.refl _ _).alloc (Nat.le_refl _) _), HGX.out.trans (Grw.alloc _ _ _), (heap_alloc_old W _ (Array.getElem?_eq_some_iff.1 BXX.out).1).trans BXX.out, FUX.out, FZX.out, FYX.out, F0X.out, F3X.out, F4X.out, F5X.out, F6X.out, F7X.out, F8X.out, fun _ _ => ⟨_, rfl, heap_alloc_new W _, HBX.out.old (Nat.le_refl _)⟩, S0X.out, S1X.out, S2X.out, R1X.out⟩
        · obtain rfl := Option.some.inj ho
          obtain ⟨rfl, hcl⟩ := s0 hL
          obtain ⟨h, rfl, hh, hn⟩ := f1 (hd ⟨1, .data⟩ (by simp) rfl) hL
          obtain rfl := f0 (hd ⟨0, .data⟩ (by simp) rfl)
          obtain ⟨v1, w1, hr, hB1, hG1⟩ := run_app hb [32] ⟨h, 0, none⟩ 1 (cell_byte' hh) (by rw [hcl]; first | omega | (simp; omega))
          have l9 : L 9 = false := by cases hq : L 9 with | false => rfl | true => rw [r1 hq] at hL; cases hL
          have LZ : Hid (L 10 = false) := by cases hq : L 10 with | false => exact rfl | true => rw [fy hq] at l9; cases l9
          refine wpOp_step rfl fun K hK => ?_
          refine op_append_run _ rfl (.tmp 32) (.tmp 33) 31 31 rfl _ _ rfl rfl hr ?_
          have FUX := Lib.hid fu
          have FZX := Lib.hid fz
          have FYX := Lib.hid fy
          have F0X := Lib.hid f0
          have F3X := Lib.hid f3
          have F4X := Lib.hid f4
          have F5X := Lib.hid f5
          have F6X := Lib.hid f6
          have F7X := Lib.hid f7
          have F8X := Lib.hid f8
          have F1X := Lib.hid f1
          have S0X := Lib.hid s0
          have S1X := Lib.hid s1
          have S2X := Lib.hid s2
          have R1X := Lib.hid r1
          have HBX := Lib.hid hb
          have HGX := Lib.hid hg
          have BXX := Lib.hid bx
          refine hK _ _ ?_
          exact ⟨_, _, _, _, _, _, _, _, _, _, _, v1, _, rfl, hB1, HGX.out.trans hG1, (hG1.keep BXX.out (HBX.out.own BXX.out (by decide))).1, FUX.out, fun h => absurd (show L 10 = true from h) (by simp [LZ.out]), FYX.out, F0X.out, F3X.out, F4X.out, F5X.out, F6X.out, F7X.out, F8X.out, nofun, nofun, fun _ _ => ⟨rfl, by simp [hcl]⟩, fun h => absurd (show L 9 = true from h) (by simp [l9]), fun _ => rfl⟩
        · obtain rfl := Option.some.inj ho
          refine wpOp_step rfl fun K hK => ?_
          have FUX := Lib.hid fu
          have FZX := Lib.hid fz
          have FYX := Lib.hid fy
          have F0X := Lib.hid f0
          have F3X := Lib.hid f3
          have F4X := Lib.hid f4
          have F5X := Lib.hid f5
          have F6X := Lib.hid f6
          have F7X := Lib.hid f7
          have F8X := Lib.hid f8
          have F1X := Lib.hid f1
          have S0X := Lib.hid s0
          have S1X := Lib.hid s1
          have S2X := Lib.hid s2
          have R1X := Lib.hid r1
          have HBX := Lib.hid hb
          have HGX := Lib.hid hg
          have BXX := Lib.hid bx
          clear fu fz fy f0 f3 f4 f5 f6 f7 f8 f1 s0 s1 s2 r1 hb hg bx hd ho hL
          go_simp
          refine hK _ _ ?_
          exact ⟨_, _, _, _, _, _, _, _, _, _, _, cur, curl, rfl, HBX.out, HGX.out, BXX.out, FUX.out, FZX.out, FYX.out, F0X.out, fun _ => rfl, F4X.out, F5X.out, F6X.out, F7X.out, F8X.out, F1X.out, S0X.out, S1X.out, S2X.out, R1X.out⟩
        · obtain rfl := Option.some.inj ho
          obtain rfl := f3 (hd ⟨3, .data⟩ (by simp) rfl)
          refine wpOp_step rfl fun K hK => ?_
          have FUX := Lib.hid fu
          have FZX := Lib.hid fz
          have FYX := Lib.hid fy
          have F0X := Lib.hid f0
          have F3X := Lib.hid f3
          have F4X := Lib.hid f4
          have F5X := Lib.hid f5
          have F6X := Lib.hid f6
          have F7X := Lib.hid f7
          have F8X := Lib.hid f8
          have F1X := Lib.hid f1
          have S0X := Lib.hid s0
          have S1X := Lib.hid s1
          have S2X := Lib.hid s2
          have R1X := Lib.hid r1
          have HBX := Lib.hid hb
          have HGX := Lib.hid hg
          have BXX := Lib.hid bx
          clear fu fz fy f0 f3 f4 f5 f6 f7 f8 f1 s0 s1 s2 r1 hb hg bx hd ho hL
          go_simp
          refine hK _ _ ?_
          exact ⟨_, _, _, _, _, _, _, _, _, _, _, cur, curl, rfl, HBX.out, HGX.out, BXX.out, FUX.out, FZX.out, FYX.out, F0X.out, F3X.out, fun _ => rfl, F5X.out, F6X.out, F7X.out, F8X.out, F1X.out, S0X.out, S1X.out, S2X.out, R1X.out⟩
        · obtain rfl := Option.some.inj ho
          refine wpOp_step rfl fun K hK => ?_
          have FUX := Lib.hid fu
          have FZX := Lib.hid fz
          have FYX := Lib.hid fy
          have F0X := Lib.hid f0
          have F3X := Lib.hid f3
          have F4X := Lib.hid f4
          have F5X := Lib.hid f5
          have F6X := Lib.hid f6
          have F7X := Lib.hid f7
          have F8X := Lib.hid f8
          have F1X := Lib.hid f1
          have S0X := Lib.hid s0
          have S1X := Lib.hid s1
          have S2X := Lib.hid s2
          have R1X := Lib.hid r1
          have HBX := Lib.hid hb
          have HGX := Lib.hid hg
          have BXX := Lib.hid bx
          clear fu fz fy f0 f3 f4 f5 f6 f7 f8 f1 s0 s1 s2 r1 hb hg bx hd ho hL
          go_simp
          refine hK _ _ ?_
          exact ⟨_, _, _, _, _, _, _, _, _, _, _, cur, curl, rfl, HBX.out, HGX.out, BXX.out, FUX.out, FZX.out, FYX.out, F0X.out, F3X.out, F4X.out, fun _ => rfl, F6X.out, F7X.out, F8X.out, F1X.out, S0X.out, S1X.out, S2X.out, R1X.out⟩
        · obtain rfl := Option.some.inj ho
          obtain rfl := f5 (hd ⟨5, .data⟩ (by simp) rfl)
          obtain ⟨c0, c1, c2, c3⟩ := cell4 bx
          refine wpOp_step rfl fun K hK => ?_
          have FUX := Lib.hid fu
          have FZX := Lib.hid fz
          have FYX := Lib.hid fy
          have F0X := Lib.hid f0
          have F3X := Lib.hid f3
          have F4X := Lib.hid f4
          have F5X := Lib.hid f5
          have F6X := Lib.hid f6
          have F7X := Lib.hid f7
          have F8X := Lib.hid f8
          have F1X := Lib.hid f1
          have S0X := Lib.hid s0
          have S1X := Lib.hid s1
          have S2X := Lib.hid s2
          have R1X := Lib.hid r1
          have HBX := Lib.hid hb
          have HGX := Lib.hid hg
          have BXX := Lib.hid bx
          clear fu fz fy f0 f3 f4 f5 f6 f7 f8 f1 s0 s1 s2 r1 hb hg bx hd ho hL
          go_simp
          refine hK _ _ ?_
          exact ⟨_, _, _, _, _, _, _, _, _, _, _, cur, curl, rfl, HBX.out, HGX.out, BXX.out, FUX.out, FZX.out, FYX.out, F0X.out, F3X.out, F4X.out, F5X.out, fun _ => rfl, F7X.out, F8X.out, F1X.out, S0X.out, S1X.out, S2X.out, R1X.out⟩
        · obtain rfl := Option.some.inj ho
          obtain rfl := f6 (hd ⟨6, .data⟩ (by simp) rfl)
          refine wpOp_step rfl fun K hK => ?_
          have FUX := Lib.hid fu
          have FZX := Lib.hid fz
          have FYX := Lib.hid fy
          have F0X := Lib.hid f0
          have F3X := Lib.hid f3
          have F4X := Lib.hid f4
          have F5X := Lib.hid f5
          have F6X := Lib.hid f6
          have F7X := Lib.hid f7
          have F8X := Lib.hid f8
          have F1X := Lib.hid f1
          have S0X := Lib.hid s0
          have S1X := Lib.hid s1
          have S2X := Lib.hid s2
          have R1X := Lib.hid r1
          have HBX := Lib.hid hb
          have HGX := Lib.hid hg
          have BXX := Lib.hid bx
          clear fu fz fy f0 f3 f4 f5 f6 f7 f8 f1 s0 s1 s2 r1 hb hg bx hd ho hL
          go_simp
          refine hK _ _ ?_
          exact ⟨_, _, _, _, _, _, _, _, _, _, _, cur, curl, rfl, HBX.out, HGX.out, BXX.out, FUX.out, FZX.out, FYX.out, F0X.out, F3X.out, F4X.out, F5X.out, F6X.out, fun _ => rfl, F8X.out, F1X.out, S0X.out, S1X.out, S2X.out, R1X.out⟩
        · obtain rfl := Option.some.inj ho
          obtain rfl := f7 (hd ⟨7, .data⟩ (by simp) rfl)
          have hlow := HBUF0.out.low hg
          obtain ⟨q0, q1, q2, q3⟩ := QY.out
          have e0 := (hlow.cell (p := ⟨b1, o1 + 4, none⟩) hbB).trans q0
          have e1 := (hlow.cell (p := ⟨b1, o1 + 5, none⟩) hbB).trans q1
          have e2 := (hlow.cell (p := ⟨b1, o1 + 6, none⟩) hbB).trans q2
          have e3 := (hlow.cell (p := ⟨b1, o1 + 7, none⟩) hbB).trans q3
          clear hlow q0 q1 q2 q3
          refine wpOp_step rfl fun K hK => ?_
          have FUX := Lib.hid fu
          have FZX := Lib.hid fz
          have FYX := Lib.hid fy
          have F0X := Lib.hid f0
          have F3X := Lib.hid f3
          have F4X := Lib.hid f4
          have F5X := Lib.hid f5
          have F6X := Lib.hid f6
          have F7X := Lib.hid f7
          have F8X := Lib.hid f8
          have F1X := Lib.hid f1
          have S0X := Lib.hid s0
          have S1X := Lib.hid s1
          have S2X := Lib.hid s2
          have R1X := Lib.hid r1
          have HBX := Lib.hid hb
          have HGX := Lib.hid hg
          have BXX := Lib.hid bx
          clear fu fz fy f0 f3 f4 f5 f6 f7 f8 f1 s0 s1 s2 r1 hb hg bx hd ho hL
          go_simp
          refine hK _ _ ?_
          exact ⟨_, _, _, _, _, _, _, _, _, _, _, cur, curl, rfl, HBX.out, HGX.out, BXX.out, FUX.out, FZX.out, FYX.out, F0X.out, F3X.out, F4X.out, F5X.out, F6X.out, F7X.out, fun _ => rfl, F1X.out, S0X.out, S1X.out, S2X.out, R1X.out⟩
        · obtain rfl := Option.some.inj ho
          obtain ⟨rfl, hcl⟩ := s1 (hd ⟨2, .data⟩ (by simp) rfl) hL
          obtain rfl := f4 (hd ⟨4, .data⟩ (by simp) rfl)
          obtain rfl := f8 (hd ⟨8, .data⟩ (by simp) rfl)
          have hlow := HBUF0.out.low hg
          have HC := Lib.hid (HY.out cur _ W hlow hb (by rw [hcl]; first | omega | (simp; omega)))
          clear hlow
          have LP2 := Lib.hid (hd ⟨2, .data⟩ (by simp) rfl)
          have LZ : Hid (L 10 = false) := by cases hq : L 10 with | false => exact rfl | true => rw [fy hq] at hL; cases hL
          refine wpOp_step rfl fun K hK => ?_
          have FUX := Lib.hid fu
          have FZX := Lib.hid fz
          have FYX := Lib.hid fy
          have F0X := Lib.hid f0
          have F3X := Lib.hid f3
          have F4X := Lib.hid f4
          have F5X := Lib.hid f5
          have F6X := Lib.hid f6
          have F7X := Lib.hid f7
          have F8X := Lib.hid f8
          have F1X := Lib.hid f1
          have S0X := Lib.hid s0
          have S1X := Lib.hid s1
          have S2X := Lib.hid s2
          have R1X := Lib.hid r1
          have HBX := Lib.hid hb
          have HGX := Lib.hid hg
          have BXX := Lib.hid bx
          clear fu fz fy f0 f3 f4 f5 f6 f7 f8 f1 s0 s1 s2 r1 hb hg bx hd ho hL
          go_simp
          refine HC.out.mono ?_
          rintro _ w1 ⟨v1, rfl, hB1, hG1⟩
          refine hK _ _ ?_
          exact ⟨_, _, _, _, _, _, _, _, _, _, _, v1, _, rfl, hB1, HGX.out.trans hG1, (hG1.keep BXX.out (HBX.out.own BXX.out (by decide))).1, FUX.out, fun h => absurd (show L 10 = true from h) (by simp [LZ.out]), fun _ => rfl, F0X.out, F3X.out, F4X.out, F5X.out, F6X.out, F7X.out, F8X.out, fun h1 h2 => by obtain ⟨h, e, hh, hn⟩ := F1X.out h1 h2; obtain ⟨a1, a2⟩ := hG1.keep hh hn; exact ⟨h, e, a1, a2⟩, fun h => absurd (show L 2 = false from h) (by simp [LP2.out]), fun _ => nofun, fun _ => ⟨rfl, by simp [hcl]⟩, fun _ => LP2.out⟩
        · obtain rfl := Option.some.inj ho
          obtain ⟨rfl, hcl⟩ := s2 (hd ⟨9, .data⟩ (by simp) rfl)
          have LL := Lib.hid (hd ⟨9, .data⟩ (by simp) rfl)
          have L0 := Lib.hid (hd ⟨0, .phase⟩ (by simp) rfl)
          refine wpOp_step rfl fun K hK => ?_
          have FUX := Lib.hid fu
          have FZX := Lib.hid fz
          have FYX := Lib.hid fy
          have F0X := Lib.hid f0
          have F3X := Lib.hid f3
          have F4X := Lib.hid f4
          have F5X := Lib.hid f5
          have F6X := Lib.hid f6
          have F7X := Lib.hid f7
          have F8X := Lib.hid f8
          have F1X := Lib.hid f1
          have S0X := Lib.hid s0
          have S1X := Lib.hid s1
          have S2X := Lib.hid s2
          have R1X := Lib.hid r1
          have HBX := Lib.hid hb
          have HGX := Lib.hid hg
          have BXX := Lib.hid bx
          clear fu fz fy f0 f3 f4 f5 f6 f7 f8 f1 s0 s1 s2 r1 hb hg bx hd ho hL
          go_simp
          refine hK _ _ ?_
          exact ⟨_, _, _, _, _, _, _, _, _, _, _, cur, curl, rfl, HBX.out, HGX.out, BXX.out, fun h => absurd (show L 0 = false from h) (by simp [L0.out]), fun _ => rfl, fun _ => LL.out, F0X.out, F3X.out, F4X.out, F5X.out, F6X.out, F7X.out, F8X.out, F1X.out, S0X.out, S1X.out, S2X.out, R1X.out⟩
        · simp at ho
      · rintro L _ W ⟨u0, t32, t33, t34, t35, t36, t37, t38, t39, t40, t41, cur, curl, rfl, hb, hg, bx, fu, fz, fy, f0, f3, f4, f5, f6, f7, f8, f1, s0, s1, s2, r1⟩ hall
        obtain rfl := fz (hall 10 (by simp))
        obtain ⟨-, hcl⟩ := s2 (hall 9 (by simp))
        subst hcl
        have HBUF := Lib.hid hb
        have HGRW := Lib.hid hg
        have HBOX := Lib.hid bx
        clear fu fz fy f0 f3 f4 f5 f6 f7 f8 f1 s0 s1 s2 r1 hb hg bx hall
        obtain ⟨c5, hc5⟩ : ∃ c5, c5 = cur := ⟨_, rfl⟩
        subst hc5
        obtain ⟨v1, w1, hr, hB1, hG1⟩ := run_app (HBUF.out.bel ((Below.refl _ _).alloc (Nat.le_refl _) (.cells #[.int .u8 41] 5))) [41] ⟨W.heap.size, 0, none⟩ 1 (cell_byte W 41) (by simp; omega)
        have HR := Lib.hid hr
        have HB1 := Lib.hid hB1
        have HG1 := Lib.hid ((HGRW.out.trans (Grw.alloc W c5 (.cells #[.int .u8 41] 5))).trans hG1)
        clear hr hB1 hG1 HBUF HGRW HBOX
        go_wp2_with (at_builtin; refine wpList_append_run _ rfl (.tmp 42) (.tmp 43) 31 31 rfl _ _ rfl rfl HR.out ?_)
        go_ret
        refine ⟨_, rfl, ?_, HG1.out⟩
        have := HB1.out
        simpa using this
end Go.Proofs.YticofjbngfjjlaaGreatDoor.Te

