/- works. -/
import Derived.Test.YtjoaajjfmmiaaaaCtW4
import Derived.Test.YtjoaajjfmmiaaaaCtInv
import Derived.Test.YtjoaajjfmmiaaaaAeV4
namespace Go.Proofs.Ytjoaajjfmmiaaaa
open Go.RowKit

/-- A new row of these bytes. -/
def RowAt (w : World) (v : Value) (n : Nat) (z : List UInt8) : Prop := ∃ g, v = .slice (some ⟨g, 0, none⟩) n n ∧ Row w g z
theorem RowAt.below {w w' : World} {v : Value} {n : Nat} {z : List UInt8} (h : RowAt w v n z) (hb : Below w.heap.size w w') : RowAt w' v n z := by
  obtain ⟨g, hv, hr⟩ := h
  exact ⟨g, hv, (hb.block g hr.lt).trans hr⟩
theorem RowAt.alloc {w : World} {v : Value} {n : Nat} {z : List UInt8} (h : RowAt w v n z) (o : Obj) : RowAt (w.alloc o) v n z := h.below ((Below.refl _ _).alloc (Nat.le_refl _) _)
theorem RowAt.new (w : World) (n : Nat) (z : List UInt8) : RowAt (w.alloc (.cells (bcells z) 5)) (.slice (some ⟨w.heap.size, 0, none⟩) n n) n z := ⟨_, rfl, Row.new _ _⟩
theorem RowAt.conv {w : World} {v : Value} {n : Nat} {z : List UInt8} (h : RowAt w v n z) (hz : z.length = n) : (convert 23 9 v).run Try.prog w = .ok (.string ⟨⟨z⟩⟩) w := by
  obtain ⟨g, rfl, hr⟩ := h
  have := conv_any w g n z 5 (0, 0) _ hr (fun j hj => bcells_at z j hj)
  rwa [hz] at this

/-- Where works stands when some of its first operations have come up. -/
def WI (w0 : World) (x y z r : List UInt8) (L : Nat → Bool) (a : Act) (w : World) : Prop :=
  ∃ v1 v2 v3 v4 v5 v6 v7 v8, a = { tmps := #[.bool false, v1, v2, v3, v4, v5, v6, v7, v8, undef, undef, undef, undef, undef, undef, undef, undef, undef, undef, undef, undef], defers := [] } ∧ Below w0.heap.size w0 w ∧
    (L 0 = true → RowAt w v2 16 x) ∧ (L 1 = true → v3 = .string ⟨⟨x⟩⟩) ∧ (L 2 = true → RowAt w v4 12 y) ∧ (L 3 = true → v5 = .string ⟨⟨y⟩⟩) ∧ (L 4 = true → RowAt w v6 20 z) ∧ (L 5 = true → v7 = .string ⟨⟨z⟩⟩) ∧ (L 6 = true → v8 = .string ⟨⟨r⟩⟩) ∧ (L 7 = true → v1 = .string ⟨⟨r⟩⟩)

set_option maxRecDepth 100000 in
set_option maxHeartbeats 4000000 in
theorem worksC_any (w : World) :
    Calls Try.prog 7 #[] w fun e w' => e = .returned (.bool true) ∧ Below w.heap.size w w' := by
  have hm1 := fun W => make_full 16 (by omega) W
  have hm2 := fun W => make_full 12 (by omega) W
  have hm3 := fun W => make_full 20 (by omega) W
  simp only [Int.cast_ofNat_Int] at hm1 hm2 hm3
  have HR := Lib.hid fun W => Cipher_any (List.replicate 16 0) (List.replicate 12 0) (List.replicate 20 0) W
  have hx : (List.replicate 16 (0 : UInt8)).length = 16 := List.length_replicate
  have hy : (List.replicate 12 (0 : UInt8)).length = 12 := List.length_replicate
  have hz : (List.replicate 20 (0 : UInt8)).length = 20 := List.length_replicate
  have hrl : (Ct.cipA (List.replicate 16 0) (List.replicate 12 0) (List.replicate 20 0)).length = 20 := (Ct.cipA_full hx hy (by rw [hz]; omega)).trans hz
  have hr4 : (Ct.cipA (List.replicate 16 0) (List.replicate 12 0) (List.replicate 20 0)).take 4 = [102, 233, 75, 212] := by
    rw [Ct.cipA_yes hx hy (by rw [hz]; omega), hz]
    exact Ct.str_ex
  generalize Ct.cipA (List.replicate 16 0) (List.replicate 12 0) (List.replicate 20 0) = r at *
  generalize List.replicate 16 (0 : UInt8) = x at *
  generalize List.replicate 12 (0 : UInt8) = y at *
  generalize List.replicate 20 (0 : UInt8) = z at *
  have HX := Lib.hid hx
  have HY := Lib.hid hy
  have HZ := Lib.hid hz
  clear hx hy hz
  go_enter Try.func7, Try.ntmps7
  go_wp2_with fail
  refine wp_region_inv (by kernel_rfl) (WI w x y z r) (by kernel_rfl) ⟨undef, undef, undef, undef, undef, undef, undef, undef, rfl, (Below.refl _ _).drew, nofun, nofun, nofun, nofun, nofun, nofun, nofun, nofun⟩ ?_ ?_
  · rintro L _ W i oo ⟨v1, v2, v3, v4, v5, v6, v7, v8, rfl, hb, f0, f1, f2, f3, f4, f5, f6, f7⟩ ho hL hd
    have F0 := Lib.hid f0
    have F1 := Lib.hid f1
    have F2 := Lib.hid f2
    have F3 := Lib.hid f3
    have F4 := Lib.hid f4
    have F5 := Lib.hid f5
    have F6 := Lib.hid f6
    have F7 := Lib.hid f7
    clear f0 f1 f2 f3 f4 f5 f6 f7
    rcases i with _ | _ | _ | _ | _ | _ | _ | _ | i
    · obtain rfl := Option.some.inj ho
      refine wpOp_step rfl fun K hK => ?_
      clear hd hL ho
      go_simp
      refine hK _ _ ?_
      exact ⟨v1, _, v3, v4, v5, v6, v7, v8, rfl, hb.alloc hb.size _, fun _ => RowAt.new _ _ _, F1.out, fun h => (F2.out h).alloc _, F3.out, fun h => (F4.out h).alloc _, F5.out, F6.out, F7.out⟩
    · obtain rfl := Option.some.inj ho
      have h0 : L 0 = true := hd ⟨0, .data⟩ (by simp) rfl
      have hcv := (F0.out h0).conv HX.out
      refine wpOp_step rfl fun K hK => ?_
      clear hd hL ho
      go_simp
      refine hK _ _ ?_
      exact ⟨v1, v2, _, v4, v5, v6, v7, v8, rfl, hb, F0.out, fun _ => rfl, F2.out, F3.out, F4.out, F5.out, F6.out, F7.out⟩
    · obtain rfl := Option.some.inj ho
      refine wpOp_step rfl fun K hK => ?_
      clear hd hL ho
      go_simp
      refine hK _ _ ?_
      exact ⟨v1, v2, v3, _, v5, v6, v7, v8, rfl, hb.alloc hb.size _, fun h => (F0.out h).alloc _, F1.out, fun _ => RowAt.new _ _ _, F3.out, fun h => (F4.out h).alloc _, F5.out, F6.out, F7.out⟩
    · obtain rfl := Option.some.inj ho
      have h2 : L 2 = true := hd ⟨2, .data⟩ (by simp) rfl
      have hcv := (F2.out h2).conv HY.out
      refine wpOp_step rfl fun K hK => ?_
      clear hd hL ho
      go_simp
      refine hK _ _ ?_
      exact ⟨v1, v2, v3, v4, _, v6, v7, v8, rfl, hb, F0.out, F1.out, F2.out, fun _ => rfl, F4.out, F5.out, F6.out, F7.out⟩
    · obtain rfl := Option.some.inj ho
      refine wpOp_step rfl fun K hK => ?_
      clear hd hL ho
      go_simp
      refine hK _ _ ?_
      exact ⟨v1, v2, v3, v4, v5, _, v7, v8, rfl, hb.alloc hb.size _, fun h => (F0.out h).alloc _, F1.out, fun h => (F2.out h).alloc _, F3.out, fun _ => RowAt.new _ _ _, F5.out, F6.out, F7.out⟩
    · obtain rfl := Option.some.inj ho
      have h4 : L 4 = true := hd ⟨4, .data⟩ (by simp) rfl
      have hcv := (F4.out h4).conv HZ.out
      refine wpOp_step rfl fun K hK => ?_
      clear hd hL ho
      go_simp
      refine hK _ _ ?_
      exact ⟨v1, v2, v3, v4, v5, v6, _, v8, rfl, hb, F0.out, F1.out, F2.out, F3.out, F4.out, fun _ => rfl, F6.out, F7.out⟩
    · obtain rfl := Option.some.inj ho
      obtain rfl := F1.out (hd ⟨1, .data⟩ (by simp) rfl)
      obtain rfl := F3.out (hd ⟨3, .data⟩ (by simp) rfl)
      obtain rfl := F5.out (hd ⟨5, .data⟩ (by simp) rfl)
      refine wpOp_step rfl fun K hK => ?_
      clear hd hL ho
      go_simp
      refine (HR.out _).mono ?_
      rintro _ w2 ⟨rfl, hb2⟩
      refine hK _ _ ?_
      exact ⟨v1, v2, _, v4, _, v6, _, _, rfl, hb.trans (hb2.mono hb.size), fun h => (F0.out h).below hb2, fun _ => rfl, fun h => (F2.out h).below hb2, fun _ => rfl, fun h => (F4.out h).below hb2, fun _ => rfl, fun _ => rfl, F7.out⟩
    · obtain rfl := Option.some.inj ho
      obtain rfl := F6.out (hd ⟨6, .data⟩ (by simp) rfl)
      refine wpOp_step rfl fun K hK => ?_
      clear hd hL ho
      go_simp
      refine hK _ _ ?_
      exact ⟨_, v2, v3, v4, v5, v6, v7, _, rfl, hb, F0.out, F1.out, F2.out, F3.out, F4.out, F5.out, fun _ => rfl, fun _ => rfl⟩
    · simp at ho
  · rintro L _ W ⟨v1, v2, v3, v4, v5, v6, v7, v8, rfl, hb, f0, f1, f2, f3, f4, f5, f6, f7⟩ hL
    obtain rfl := f7 (hL 7 (by simp))
    clear f0 f1 f2 f3 f4 f5 f6 f7 hL hm1 hm2 hm3 HR HX HY HZ
    have hcut : (ByteArray.mk ⟨r⟩).extract 0 4 = ⟨⟨[102, 233, 75, 212]⟩⟩ := by rw [cut_str, List.drop_zero, ← hr4]
    obtain ⟨l1, l2, l3, l4⟩ := len_true hrl
    simp only [Int.cast_ofNat_Int] at l1 l3
    have HB := Lib.hid hb
    clear hr4 hb
    go_wp2_with (go_at_call 11; refine (Stream_any [] [] 3 _).mono ?_; rw [Ct.strA_no (by simp)]; rintro _ w3 ⟨rfl, hb3⟩)
    go_ret
    exact ⟨rfl, HB.out.trans (hb3.mono HB.out.size)⟩
end Go.Proofs.Ytjoaajjfmmiaaaa
