/- The document's answer: Block. -/
import Derived.Test.YtihgglplbanegaaDoorShaV10a
namespace Go.Proofs.YtihgglplbanegaaDoor
open Go.RowKit

set_option maxRecDepth 100000 in
set_option maxHeartbeats 4000000 in
theorem refBlock_by (vk : Value) (st b : List UInt8) (L : List Nat) (w : World) (HK : Ints w vk Sh.KK) (HS32 : Hid (st.length = 32)) (HB64 : Hid (b.length = 64)) (HL : Hid (L.length = 64)) (HLB : Hid (∀ x ∈ L, x < 4294967296))
    (HW16 : Hid (wl b 16 = L.take 16)) (HW8 : Hid (wl st 8 = (Sh.rds st).list)) (HG : Hid (∀ t, 16 ≤ t → t < 64 → L.getD t 0 = Sh.nxt L t)) :
    Calls Tryd.prog 48 #[vk, .string ⟨⟨st⟩⟩, .string ⟨⟨b⟩⟩] w fun e w' => e = .returned (.string ⟨⟨Sh.txt (Sh.plus (Sh.rds st) (Sh.rn L (Sh.rds st) 64))⟩⟩) ∧ Below w.heap.size w w' := by
  have e1 : ((st.length : Int) != 32) = false := by rw [HS32.out]; rfl
  have e2 : ((b.length : Int) != 64) = false := by rw [HB64.out]; rfl
  go_enter Tryd.func48, Tryd.ntmps48
  go_wp2_with fail
  refine (words_any b 16 w (by rw [HB64.out]) (by decide)).mono ?_
  rintro _ w1 ⟨v1, rfl, HO1, hb1⟩
  rw [HW16.out] at HO1
  go_wp2_with fail
  go_loopw [7, 8, 9, 10, 11, 12] (fun v tv _ _ _ _ wr => ∃ t : Nat, 16 ≤ t ∧ t ≤ 64 ∧ tv = .int .i64 (t : Nat) ∧ OwnI wr w.heap.size v (L.take t) ∧ Below w.heap.size w wr) (fun _ tv _ _ _ _ _ => 64 - (intOf tv).toNat)
  case atStart => exact ⟨16, by omega, by omega, rfl, HO1, hb1⟩
  case round =>
    obtain ⟨t, ht16, ht64, rfl, HO, hb⟩ := hrel
    clear HO1 hb1
    by_cases hlt : t < 64
    · have hll : (L.take t).length = t := by rw [List.length_take, HL.out]; omega
      have HS := Lib.hid (take_snocN L t (by rw [HL.out]; exact hlt))
      have HN := Lib.hid (HG.out t ht16 hlt)
      obtain ⟨g, cap, rfl, hgb, hgz, hc⟩ := HO.block (by omega)
      rw [hll] at hc HO ⊢
      have gd : ∀ j, j < t → (L.take t).getD j 0 = L.getD j 0 := fun j hj => Sh.getD_take hj
      have c15 := hc (t - 15) (by omega)
      have c2 := hc (t - 2) (by omega)
      have c7 := hc (t - 7) (by omega)
      have c16 := hc (t - 16) (by omega)
      rw [gd _ (by omega)] at c15 c2 c7 c16
      have l2 := Sh.getD_lt HLB.out (t - 2)
      have l7 := Sh.getD_lt HLB.out (t - 7)
      have l15 := Sh.getD_lt HLB.out (t - 15)
      have l16 := Sh.getD_lt HLB.out (t - 16)
      have HLT : Hid ((L.take t).length ≤ 1000000) := by rw [Hid, hll]; omega
      rw [Sh.nxt] at HN
      have hll0 := hll
      clear hc gd hll
      generalize L.getD (t - 15) 0 = x15 at *
      generalize L.getD (t - 2) 0 = x2 at *
      generalize L.getD (t - 7) 0 = x7 at *
      generalize L.getD (t - 16) 0 = x16 at *
      have j15 : ((t : Int) - 15).toNat = t - 15 := by omega
      have j2' : ((t : Int) - 2).toNat = t - 2 := by omega
      go_wp2_with fail
      refine (turn_any x15 7 7 wr l15 rfl (by decide) (by decide)).mono ?_
      rintro _ _ ⟨rfl, n1, rfl⟩
      go_wp2_with fail
      refine (turn_any x15 18 18 _ l15 rfl (by decide) (by decide)).mono ?_
      rintro _ _ ⟨rfl, n2, rfl⟩
      go_wp2_with fail
      refine (turn_any x2 17 17 _ l2 rfl (by decide) (by decide)).mono ?_
      rintro _ _ ⟨rfl, n3, rfl⟩
      go_wp2_with fail
      refine (turn_any x2 19 19 _ l2 rfl (by decide) (by decide)).mono ?_
      rintro _ _ ⟨rfl, n4, rfl⟩
      go_wp2_with fail
      have HLL := Lib.hid hll0
      clear hll0
      have HS0 : Hid (bits BinOp.xor IntKind.i64 (bits BinOp.xor IntKind.i64 ↑(Sh.rot x15 7) ↑(Sh.rot x15 18)) ((x15 : Int) / 8) = ((Sh.s0 x15 : Nat) : Int)) := by
        rw [Hid, i64_xor _ _ (Sh.rot_lt l15 (by decide)) (Sh.rot_lt l15 (by decide)), show ((x15 : Int) / 8) = ((x15 / 8 : Nat) : Int) by rfl, i64_xor _ _ (Sh.xor_lt (Sh.rot_lt l15 (by decide)) (Sh.rot_lt l15 (by decide))) (by omega)]
        rfl
      have HS1 : Hid (bits BinOp.xor IntKind.i64 (bits BinOp.xor IntKind.i64 ↑(Sh.rot x2 17) ↑(Sh.rot x2 19)) ((x2 : Int) / 1024) = ((Sh.s1 x2 : Nat) : Int)) := by
        rw [Hid, i64_xor _ _ (Sh.rot_lt l2 (by decide)) (Sh.rot_lt l2 (by decide)), show ((x2 : Int) / 1024) = ((x2 / 1024 : Nat) : Int) by rfl, i64_xor _ _ (Sh.xor_lt (Sh.rot_lt l2 (by decide)) (Sh.rot_lt l2 (by decide))) (by omega)]
        rfl
      rw [HS0.out, HS1.out]
      have k0 := Sh.s0_lt l15
      have k1 := Sh.s1_lt l2
      generalize Sh.s0 x15 = y0 at *
      generalize Sh.s1 x2 = y1 at *
      have HCI : Hid ((IntKind.i64.wrap (IntKind.i64.wrap (IntKind.i64.wrap ((y1 : Int) + (x7 : Int)) + (y0 : Int)) + (x16 : Int))).tmod 4294967296 = ((L.getD t 0 : Nat) : Int)) := by
        rw [Hid, IntWalk.i64_in ((y1 : Int) + (x7 : Int)) (by omega), IntWalk.i64_in ((y1 : Int) + (x7 : Int) + (y0 : Int)) (by omega), IntWalk.i64_in _ (by omega), HN.out, show ((y1 : Int) + (x7 : Int) + (y0 : Int) + (x16 : Int)) = ((y1 + x7 + y0 + x16 : Nat) : Int) by omega]
        rfl
      have hbx : Below w.heap.size w (wr.drewN (n1 + n2 + n3 + n4)) := Below.drewN' _ hb
      have HOx : OwnI (wr.drewN (n1 + n2 + n3 + n4)) w.heap.size (.slice (some ⟨g, 0, none⟩) t cap) (L.take t) := HO
      have d7 : (wr.drewN (n1 + n2 + n3 + n4)).cell? ⟨g, t - 7, none⟩ = some (.int .i64 (x7 : Nat)) := c7
      have d16 : (wr.drewN (n1 + n2 + n3 + n4)).cell? ⟨g, t - 16, none⟩ = some (.int .i64 (x16 : Nat)) := c16
      have hgx : g < (wr.drewN (n1 + n2 + n3 + n4)).heap.size := hgz
      generalize wr.drewN (n1 + n2 + n3 + n4) = wx at *
      clear HS0 HS1 HN HO hb c7 c16 c15 c2 hgz j15 j2' l2 l7 l15 l16 k0 k1
      have c7 := d7
      have c16 := d16
      have f7 : IntKind.i64.wrap ((t : Int) - 7) = (t : Int) - 7 := IntWalk.i64_in _ (by omega)
      have f16 : IntKind.i64.wrap ((t : Int) - 16) = (t : Int) - 16 := IntWalk.i64_in _ (by omega)
      have t7 : ((t : Int) - 7).toNat = t - 7 := by omega
      have t16 : ((t : Int) - 16).toNat = t - 16 := by omega
      have i7 : (7 : Int) ≤ (t : Int) := by omega
      have i16 : (16 : Int) ≤ (t : Int) := by omega
      have m7 : 7 ≤ t := by omega
      have u7' : (t : Int) - 7 < (t : Int) := by omega
      have u16' : (t : Int) - 16 < (t : Int) := by omega
      have q7 : t - 7 < t := by omega
      have q16 : t - 16 < t := by omega
      generalize t - 7 = j7 at *
      generalize t - 16 = j16 at *
      have hzx := hbx.size
      have hS1 : ∀ o : Obj, (wx.alloc o).drew.cell? ⟨g, j7, none⟩ = some (.int .i64 (x7 : Nat)) ∧ (wx.alloc o).drew.cell? ⟨g, j16, none⟩ = some (.int .i64 (x16 : Nat)) := fun o => ⟨(World.cell?_of_block (w := wx) (a := ⟨g, j7, none⟩) (Below.heap_alloc wx o g hgx)).trans d7, (World.cell?_of_block (w := wx) (a := ⟨g, j16, none⟩) (Below.heap_alloc wx o g hgx)).trans d16⟩
      have HL7 : Hid (j7 < t ∧ j16 < t) := ⟨q7, q16⟩
      refine wp_region_held_drew (S := fun w' => (w'.cell? ⟨g, j7, none⟩ = some (.int .i64 (x7 : Nat)) ∧ w'.cell? ⟨g, j16, none⟩ = some (.int .i64 (x16 : Nat)))) (by kernel_rfl) ⟨c7, c16⟩ (fun hHeld => ?_)
      refine wpAnyH_take (i := 0) (oi := { dst := some 63, op := Op.move (Operand.tmp 7), type := 23, pos := "ref.go:148", after := #[], guard := none }) (v := ?_) rfl (by kernel_rfl) (by kernel_rfl) (by kernel_rfl) (fun _ _ _ h => h) (Or.inl ⟨by rfl, ?_⟩) hHeld ?_
      rotate_left
      · intro W0 hSw
        obtain ⟨hS7, hS16⟩ := hSw
        go_simp <;> with_reducible rfl
      simp only [Act.put, List.setIfInBounds_toArray, List.set_cons_zero, List.set_cons_succ]
      refine wpAnyH_take (i := 1) (oi := { dst := some 64, op := Op.move (Operand.tmp 12), type := 3, pos := "ref.go:148", after := #[], guard := none }) (v := ?_) rfl (by kernel_rfl) (by kernel_rfl) (by kernel_rfl) (fun _ _ _ h => h) (Or.inl ⟨by rfl, ?_⟩) hHeld ?_
      rotate_left
      · intro W0 hSw
        obtain ⟨hS7, hS16⟩ := hSw
        go_simp <;> with_reducible rfl
      simp only [Act.put, List.setIfInBounds_toArray, List.set_cons_zero, List.set_cons_succ]
      refine wpAnyH_take (i := 2) (oi := { dst := some 65, op := Op.move (Operand.tmp 7), type := 23, pos := "ref.go:148", after := #[], guard := none }) (v := ?_) rfl (by kernel_rfl) (by kernel_rfl) (by kernel_rfl) (fun _ _ _ h => h) (Or.inl ⟨by rfl, ?_⟩) hHeld ?_
      rotate_left
      · intro W0 hSw
        obtain ⟨hS7, hS16⟩ := hSw
        go_simp <;> with_reducible rfl
      simp only [Act.put, List.setIfInBounds_toArray, List.set_cons_zero, List.set_cons_succ]
      refine wpAnyH_take (i := 3) (oi := { dst := some 66, op := Op.move (Operand.tmp 8), type := 3, pos := "ref.go:148", after := #[], guard := none }) (v := ?_) rfl (by kernel_rfl) (by kernel_rfl) (by kernel_rfl) (fun _ _ _ h => h) (Or.inl ⟨by rfl, ?_⟩) hHeld ?_
      rotate_left
      · intro W0 hSw
        obtain ⟨hS7, hS16⟩ := hSw
        go_simp <;> with_reducible rfl
      simp only [Act.put, List.setIfInBounds_toArray, List.set_cons_zero, List.set_cons_succ]
      refine wpAnyH_take (i := 4) (oi := { dst := some 67, op := Op.binOp BinOp.sub 3 (Operand.tmp 66) (Operand.const (Value.int IntKind.i64 7)) 3, type := 3, pos := "ref.go:148", after := #[{ on := 3, ground := Ground.data }], guard := none }) (v := ?_) rfl (by kernel_rfl) (by kernel_rfl) (by kernel_rfl) (fun _ _ _ h => h) (Or.inl ⟨by rfl, ?_⟩) hHeld ?_
      rotate_left
      · intro W0 hSw
        obtain ⟨hS7, hS16⟩ := hSw
        go_simp <;> with_reducible rfl
      simp only [Act.put, List.setIfInBounds_toArray, List.set_cons_zero, List.set_cons_succ]
      refine wpAnyH_take (i := 5) (oi := { dst := some 68, op := Op.indexAddr 23 (Operand.tmp 65) (Operand.tmp 67), type := 0, pos := "ref.go:148", after := #[{ on := 2, ground := Ground.data }, { on := 4, ground := Ground.data }], guard := none }) (v := ?_) rfl (by kernel_rfl) (by kernel_rfl) (by kernel_rfl) (fun _ _ _ h => h) (Or.inl ⟨by rfl, ?_⟩) hHeld ?_
      rotate_left
      · intro W0 hSw
        obtain ⟨hS7, hS16⟩ := hSw
        go_simp <;> with_reducible rfl
      simp only [Act.put, List.setIfInBounds_toArray, List.set_cons_zero, List.set_cons_succ]
      refine wpAnyH_take (i := 6) (oi := { dst := some 69, op := Op.load 3 (Operand.tmp 68), type := 3, pos := "ref.go:148", after := #[{ on := 5, ground := Ground.data }], guard := none }) (v := ?_) rfl (by kernel_rfl) (by kernel_rfl) (by kernel_rfl) (fun _ _ _ h => h) (Or.inl ⟨by rfl, ?_⟩) hHeld ?_
      rotate_left
      · intro W0 hSw
        obtain ⟨hS7, hS16⟩ := hSw
        go_simp <;> with_reducible rfl
      simp only [Act.put, List.setIfInBounds_toArray, List.set_cons_zero, List.set_cons_succ]
      refine wpAnyH_take (i := 7) (oi := { dst := some 70, op := Op.binOp BinOp.add 3 (Operand.tmp 64) (Operand.tmp 69) 3, type := 3, pos := "ref.go:148", after := #[{ on := 1, ground := Ground.data }, { on := 6, ground := Ground.data }], guard := none }) (v := ?_) rfl (by kernel_rfl) (by kernel_rfl) (by kernel_rfl) (fun _ _ _ h => h) (Or.inl ⟨by rfl, ?_⟩) hHeld ?_
      rotate_left
      · intro W0 hSw
        obtain ⟨hS7, hS16⟩ := hSw
        go_simp <;> with_reducible rfl
      simp only [Act.put, List.setIfInBounds_toArray, List.set_cons_zero, List.set_cons_succ]
      refine wpAnyH_take (i := 8) (oi := { dst := some 71, op := Op.move (Operand.tmp 11), type := 3, pos := "ref.go:148", after := #[], guard := none }) (v := ?_) rfl (by kernel_rfl) (by kernel_rfl) (by kernel_rfl) (fun _ _ _ h => h) (Or.inl ⟨by rfl, ?_⟩) hHeld ?_
      rotate_left
      · intro W0 hSw
        obtain ⟨hS7, hS16⟩ := hSw
        go_simp <;> with_reducible rfl
      simp only [Act.put, List.setIfInBounds_toArray, List.set_cons_zero, List.set_cons_succ]
      refine wpAnyH_take (i := 9) (oi := { dst := some 72, op := Op.binOp BinOp.add 3 (Operand.tmp 70) (Operand.tmp 71) 3, type := 3, pos := "ref.go:148", after := #[{ on := 7, ground := Ground.data }, { on := 8, ground := Ground.data }], guard := none }) (v := ?_) rfl (by kernel_rfl) (by kernel_rfl) (by kernel_rfl) (fun _ _ _ h => h) (Or.inl ⟨by rfl, ?_⟩) hHeld ?_
      rotate_left
      · intro W0 hSw
        obtain ⟨hS7, hS16⟩ := hSw
        go_simp <;> with_reducible rfl
      simp only [Act.put, List.setIfInBounds_toArray, List.set_cons_zero, List.set_cons_succ]
      refine wpAnyH_take (i := 10) (oi := { dst := some 73, op := Op.move (Operand.tmp 7), type := 23, pos := "ref.go:148", after := #[], guard := none }) (v := ?_) rfl (by kernel_rfl) (by kernel_rfl) (by kernel_rfl) (fun _ _ _ h => h) (Or.inl ⟨by rfl, ?_⟩) hHeld ?_
      rotate_left
      · intro W0 hSw
        obtain ⟨hS7, hS16⟩ := hSw
        go_simp <;> with_reducible rfl
      simp only [Act.put, List.setIfInBounds_toArray, List.set_cons_zero, List.set_cons_succ]
      refine wpAnyH_take (i := 11) (oi := { dst := some 74, op := Op.move (Operand.tmp 8), type := 3, pos := "ref.go:148", after := #[], guard := none }) (v := ?_) rfl (by kernel_rfl) (by kernel_rfl) (by kernel_rfl) (fun _ _ _ h => h) (Or.inl ⟨by rfl, ?_⟩) hHeld ?_
      rotate_left
      · intro W0 hSw
        obtain ⟨hS7, hS16⟩ := hSw
        go_simp <;> with_reducible rfl
      simp only [Act.put, List.setIfInBounds_toArray, List.set_cons_zero, List.set_cons_succ]
      refine wpAnyH_take (i := 12) (oi := { dst := some 75, op := Op.binOp BinOp.sub 3 (Operand.tmp 74) (Operand.const (Value.int IntKind.i64 16)) 3, type := 3, pos := "ref.go:148", after := #[{ on := 11, ground := Ground.data }], guard := none }) (v := ?_) rfl (by kernel_rfl) (by kernel_rfl) (by kernel_rfl) (fun _ _ _ h => h) (Or.inl ⟨by rfl, ?_⟩) hHeld ?_
      rotate_left
      · intro W0 hSw
        obtain ⟨hS7, hS16⟩ := hSw
        go_simp <;> with_reducible rfl
      simp only [Act.put, List.setIfInBounds_toArray, List.set_cons_zero, List.set_cons_succ]
      refine wpAnyH_take (i := 13) (oi := { dst := some 76, op := Op.indexAddr 23 (Operand.tmp 73) (Operand.tmp 75), type := 0, pos := "ref.go:148", after := #[{ on := 10, ground := Ground.data }, { on := 12, ground := Ground.data }], guard := none }) (v := ?_) rfl (by kernel_rfl) (by kernel_rfl) (by kernel_rfl) (fun _ _ _ h => h) (Or.inl ⟨by rfl, ?_⟩) hHeld ?_
      rotate_left
      · intro W0 hSw
        obtain ⟨hS7, hS16⟩ := hSw
        go_simp <;> with_reducible rfl
      simp only [Act.put, List.setIfInBounds_toArray, List.set_cons_zero, List.set_cons_succ]
      refine wpAnyH_take (i := 14) (oi := { dst := some 77, op := Op.load 3 (Operand.tmp 76), type := 3, pos := "ref.go:148", after := #[{ on := 13, ground := Ground.data }], guard := none }) (v := ?_) rfl (by kernel_rfl) (by kernel_rfl) (by kernel_rfl) (fun _ _ _ h => h) (Or.inl ⟨by rfl, ?_⟩) hHeld ?_
      rotate_left
      · intro W0 hSw
        obtain ⟨hS7, hS16⟩ := hSw
        go_simp <;> with_reducible rfl
      simp only [Act.put, List.setIfInBounds_toArray, List.set_cons_zero, List.set_cons_succ]
      refine wpAnyH_take (i := 15) (oi := { dst := some 78, op := Op.binOp BinOp.add 3 (Operand.tmp 72) (Operand.tmp 77) 3, type := 3, pos := "ref.go:148", after := #[{ on := 9, ground := Ground.data }, { on := 14, ground := Ground.data }], guard := none }) (v := ?_) rfl (by kernel_rfl) (by kernel_rfl) (by kernel_rfl) (fun _ _ _ h => h) (Or.inl ⟨by rfl, ?_⟩) hHeld ?_
      rotate_left
      · intro W0 hSw
        obtain ⟨hS7, hS16⟩ := hSw
        go_simp <;> with_reducible rfl
      simp only [Act.put, List.setIfInBounds_toArray, List.set_cons_zero, List.set_cons_succ]
      refine wpAnyH_take (i := 16) (oi := { dst := some 79, op := Op.binOp BinOp.rem 3 (Operand.tmp 78) (Operand.const (Value.int IntKind.i64 4294967296)) 3, type := 3, pos := "ref.go:148", after := #[{ on := 15, ground := Ground.data }], guard := none }) (v := ?_) rfl (by kernel_rfl) (by kernel_rfl) (by kernel_rfl) (fun _ _ _ h => h) (Or.inl ⟨by rfl, ?_⟩) hHeld ?_
      rotate_left
      · intro W0 hSw
        obtain ⟨hS7, hS16⟩ := hSw
        go_simp <;> with_reducible rfl
      simp only [Act.put, List.setIfInBounds_toArray, List.set_cons_zero, List.set_cons_succ]
      refine wpAnyH_ready (rs := [17]) (by kernel_rfl) (by simp) ?_
      refine AllReadyH.cons (o := { dst := some 80, op := Op.buildSlice 23 1 #[(0, Operand.tmp 79)], type := 23, pos := "ref.go:148", after := #[{ on := 16, ground := Ground.data }], guard := none }) rfl (fun K hK => ?_) AllReadyH.nil
      go_simp
      refine hK.out _ _ (hS1 _) (fun hHeld => ?_)
      clear hK K
      try simp only [Act.put, List.setIfInBounds_toArray, List.set_cons_zero, List.set_cons_succ]
      refine wpAnyH_ready (rs := [18]) (by kernel_rfl) (by simp) ?_
      refine AllReadyH.cons (o := { dst := some 81, op := Op.call { callee := Callee.builtin Builtin.append, args := #[Operand.tmp 63, Operand.tmp 80], argTypes := #[23, 23] }, type := 23, pos := "ref.go:148", after := #[{ on := 0, ground := Ground.data }, { on := 17, ground := Ground.data }], guard := none }) rfl (fun K hK => ?_) AllReadyH.nil
      refine step_appK _ (by rfl) (.tmp 63) (.tmp 80) (by rfl) w.heap.size g cap (L.take t) t HLL.out (L.getD t 0) wx.heap.size _ HCI (by rfl) (by rfl) (heap_alloc_new wx _) ((HOx.alloc _).drew) HLT.out (by simp; omega) ?_
      intro v2 w2 HO2 hb2 hkp
      refine hK.out _ _ ⟨(hkp j7 HL7.out.1).trans (hS1 _).1, (hkp j16 HL7.out.2).trans (hS1 _).2⟩ (fun hHeld => ?_)
      clear hK K
      try simp only [Act.put, List.setIfInBounds_toArray, List.set_cons_zero, List.set_cons_succ]
      refine wpAnyH_take (i := 19) (oi := { dst := some 7, op := Op.assign (Operand.tmp 81), type := 23, pos := "ref.go:148", after := #[{ on := 18, ground := Ground.data }, { on := 18, ground := Ground.chain }, { on := 0, ground := Ground.phase }, { on := 1, ground := Ground.phase }, { on := 2, ground := Ground.phase }, { on := 3, ground := Ground.phase }, { on := 4, ground := Ground.phase }, { on := 5, ground := Ground.phase }, { on := 6, ground := Ground.phase }, { on := 7, ground := Ground.phase }, { on := 8, ground := Ground.phase }, { on := 9, ground := Ground.phase }, { on := 10, ground := Ground.phase }, { on := 11, ground := Ground.phase }, { on := 12, ground := Ground.phase }, { on := 13, ground := Ground.phase }, { on := 14, ground := Ground.phase }, { on := 15, ground := Ground.phase }, { on := 16, ground := Ground.phase }, { on := 17, ground := Ground.phase }, { on := 18, ground := Ground.phase }], guard := none }) (v := ?_) rfl (by kernel_rfl) (by kernel_rfl) (by kernel_rfl) (fun _ _ _ h => h) (Or.inl ⟨by rfl, ?_⟩) hHeld ?_
      rotate_left
      · intro W0 hSw
        obtain ⟨hS7, hS16⟩ := hSw
        go_simp <;> with_reducible rfl
      simp only [Act.put, List.setIfInBounds_toArray, List.set_cons_zero, List.set_cons_succ]
      refine wpAnyH_done (by kernel_rfl) ?_ _
      have b2 : Below w.heap.size w w2 := hbx.trans ((((Below.refl _ _).alloc (Nat.le_refl _) _).drew.mono hzx).trans hb2)
      clear hS1 hHeld hkp c7 c16 d7 d16 f7 f16 t7 t16 i7 i16 u7' u16' hbx HOx HCI
      go_wp2
      go_roundw
      case rel => exact ⟨t + 1, by omega, by omega, by go_num, by rw [HS.out]; exact HO2, b2⟩
      case measure => simp [intOf]; omega
    · obtain rfl : t = 64 := by omega
      rw [List.take_of_length_le (by rw [HL.out]; exact Nat.le_refl _)] at HO
      have HWI := HO.ints (by rw [HL.out]; decide)
      have HKI := HK.below hb
      clear HO HG HW16 HK
      go_wp2_with fail
      refine (words_any st 8 wr (by rw [HS32.out]) (by decide)).mono ?_
      rintro _ wa ⟨va, rfl, HOa, hba⟩
      go_wp2_with fail
      refine (words_any st 8 wa (by rw [HS32.out]) (by decide)).mono ?_
      rintro _ wb ⟨vb, rfl, HOb, hbb⟩
      rw [HW8.out] at HOa HOb
      have HO32 := Sh.rds_ok st
      have HFI := (HOa.ints (by simp [Sh.St.list])).below hbb
      have HWI2 := (HWI.below hba).below hbb
      have HKI2 := (HKI.below hba).below hbb
      have bwa := hb.trans (hba.mono hb.size)
      have bwb := bwa.trans (hbb.mono bwa.size)
      obtain ⟨gw, capw, rfl, hgw, hcw⟩ := HWI2
      obtain ⟨gk, capk, rfl, hgk, hck⟩ := HKI2
      have HCW := Lib.hid hcw
      have HCK := Lib.hid hck
      have HGA : Hid (∃ ga capa, va = .slice (some ⟨ga, 0, none⟩) 8 capa ∧ ga < wa.heap.size ∧ ∀ i, i < 8 → wb.cell? ⟨ga, i, none⟩ = some (.int .i64 ((Sh.rds st).list.getD i 0 : Nat))) := by
        obtain ⟨ga, capa, h1, h2, h3⟩ := HOa.ints (by simp [Sh.St.list])
        exact ⟨ga, capa, h1, h2, fun i hi => (hbb.cell (p := ⟨ga, i, none⟩) h2).trans (h3 i hi)⟩
      have hbsz := hbb.size
      have HSZA := Lib.hid (Nat.le_trans hb.size hba.size)
      clear hcw hck HWI HKI HOa hba hbb hb bwa HFI
      rw [HL.out, show Sh.KK.length = 64 by decide]
      generalize hv0 : Sh.rds st = v0 at *
      have HV0 := Lib.hid hv0
      clear hv0 HW8
      go_wp2_with fail
      go_loopw [14, 15, 16, 17, 18, 19, 20, 21] (fun vv tv _ _ _ _ _ _ wr => ∃ (t : Nat) (u : Sh.St), t ≤ 64 ∧ tv = .int .i64 (t : Nat) ∧ Hid (Sh.rn L v0 t = u) ∧ OwnI wr wa.heap.size vv u.list ∧ Below wb.heap.size wb wr) (fun _ tv _ _ _ _ _ _ _ => 64 - (intOf tv).toNat)
      case atStart => exact ⟨0, v0, by omega, rfl, Lib.hid rfl, HOb, Below.refl _ _⟩
      case round =>
        obtain ⟨t, u, ht64, rfl, HU, HO, hb⟩ := hrel
        clear HOb
        have HUO : u.Ok := HU.out ▸ Sh.rn_ok HO32 L t
        by_cases hlt : t < 64
        · have HE : Hid (Sh.rn L v0 (t + 1) = Sh.rnd (Sh.KK.getD t 0) (L.getD t 0) u) := by rw [Hid, Sh.rn, HU.out]
          have ck := (hb.cell (p := ⟨gk, t, none⟩) hgk).trans (HCK.out t hlt)
          have cw := (hb.cell (p := ⟨gw, t, none⟩) hgw).trans (HCW.out t (by rw [HL.out]; exact hlt))
          have lK := Sh.getD_lt Sh.KK_lt t
          have lW := Sh.getD_lt HLB.out t
          generalize Sh.KK.getD t 0 = kk at *
          generalize L.getD t 0 = wk at *
          obtain ⟨a, b', c, d, e, f, g, h⟩ := u
          obtain ⟨oa, ob, oc, od, oe, of, og, oh⟩ := HUO
          simp only at oa ob oc od oe of og oh
          obtain ⟨gv, capv, rfl, hgvb, hgvz, hc⟩ := HO.block (by simp [Sh.St.list])
          have c0 : wr.cell? ⟨gv, 0, none⟩ = some (.int .i64 (a : Nat)) := hc 0 (by simp [Sh.St.list])
          have c1 : wr.cell? ⟨gv, 1, none⟩ = some (.int .i64 (b' : Nat)) := hc 1 (by simp [Sh.St.list])
          have c2 : wr.cell? ⟨gv, 2, none⟩ = some (.int .i64 (c : Nat)) := hc 2 (by simp [Sh.St.list])
          have c3 : wr.cell? ⟨gv, 3, none⟩ = some (.int .i64 (d : Nat)) := hc 3 (by simp [Sh.St.list])
          have c4 : wr.cell? ⟨gv, 4, none⟩ = some (.int .i64 (e : Nat)) := hc 4 (by simp [Sh.St.list])
          have c5 : wr.cell? ⟨gv, 5, none⟩ = some (.int .i64 (f : Nat)) := hc 5 (by simp [Sh.St.list])
          have c6 : wr.cell? ⟨gv, 6, none⟩ = some (.int .i64 (g : Nat)) := hc 6 (by simp [Sh.St.list])
          have c7 : wr.cell? ⟨gv, 7, none⟩ = some (.int .i64 (h : Nat)) := hc 7 (by simp [Sh.St.list])
          have hlen8 : (Sh.St.list ⟨a, b', c, d, e, f, g, h⟩).length = 8 := rfl
          rw [hlen8]
          clear hc HO hlen8
          go_wp2_with fail
          go_quiet (fail)
          have HCH : Hid (bits BinOp.xor IntKind.i64 (bits BinOp.and IntKind.i64 ↑e ↑f) (bits BinOp.and IntKind.i64 (4294967295 - (e : Int)) ↑g) = ((Sh.ch e f g : Nat) : Int)) := by
            rw [Hid, show (4294967295 - (e : Int)) = ((4294967295 - e : Nat) : Int) by omega, i64_and _ _ oe of, i64_and _ _ (by omega) og, i64_xor _ _ (Sh.and_lt of) (Sh.and_lt og)]
            rfl
          rw [HCH.out]
          have lch := Sh.ch_lt (e := e) of og
          have Bx : Below wb.heap.size wb (wr.drewN nq) := Below.drewN' _ hb
          have K8 : Cells8 (wr.drewN nq) gv a b' c d e f g h := ⟨c0, c1, c2, c3, c4, c5, c6, c7⟩
          have ck2 : (wr.drewN nq).cell? ⟨gk, t, none⟩ = some (.int .i64 (kk : Nat)) := ck
          have cw2 : (wr.drewN nq).cell? ⟨gw, t, none⟩ = some (.int .i64 (wk : Nat)) := cw
          have hz2 : gv < (wr.drewN nq).heap.size := hgvz
          generalize wr.drewN nq = wy at *
          clear c0 c1 c2 c3 c4 c5 c6 c7 ck cw hb hgvz
          obtain ⟨c0, c1, c2, c3, c4, c5, c6, c7⟩ := K8
          have ck := ck2
          have cw := cw2
          have hb := Bx
          have hgvz := hz2
          clear ck2 cw2 Bx hz2
          go_wp2_with fail
          go_quiet (fail)
          have HMA : Hid (bits BinOp.xor IntKind.i64 (bits BinOp.xor IntKind.i64 (bits BinOp.and IntKind.i64 ↑a ↑b') (bits BinOp.and IntKind.i64 ↑a ↑c)) (bits BinOp.and IntKind.i64 ↑b' ↑c) = ((Sh.ma a b' c : Nat) : Int)) := by
            rw [Hid, i64_and _ _ oa ob, i64_and _ _ oa oc, i64_and _ _ ob oc, i64_xor _ _ (Sh.and_lt ob) (Sh.and_lt oc), i64_xor _ _ (Sh.xor_lt (Sh.and_lt ob) (Sh.and_lt oc)) (Sh.and_lt oc)]
            rfl
          rw [HMA.out]
          have lma := Sh.ma_lt (a := a) ob oc
          have Bx : Below wb.heap.size wb (wy.drewN nq) := Below.drewN' _ hb
          have K8 : Cells8 (wy.drewN nq) gv a b' c d e f g h := ⟨c0, c1, c2, c3, c4, c5, c6, c7⟩
          have ck2 : (wy.drewN nq).cell? ⟨gk, t, none⟩ = some (.int .i64 (kk : Nat)) := ck
          have cw2 : (wy.drewN nq).cell? ⟨gw, t, none⟩ = some (.int .i64 (wk : Nat)) := cw
          have hz2 : gv < (wy.drewN nq).heap.size := hgvz
          generalize wy.drewN nq = wz at *
          clear c0 c1 c2 c3 c4 c5 c6 c7 ck cw hb hgvz
          obtain ⟨c0, c1, c2, c3, c4, c5, c6, c7⟩ := K8
          have ck := ck2
          have cw := cw2
          have hb := Bx
          have hgvz := hz2
          clear ck2 cw2 Bx hz2
          go_wp2_with fail
          generalize hchv : Sh.ch e f g = vch at *
          generalize hmav : Sh.ma a b' c = vma at *
          have HCHV := Lib.hid hchv
          have HMAV := Lib.hid hmav
          clear hchv hmav HCH HMA
          go_quiet (first | (go_at_call 55; with_reducible exact Calls.quiet_of (turn_any e 6 6 _ oe rfl (by decide) (by decide))) | (go_at_call 55; with_reducible exact Calls.quiet_of (turn_any e 11 11 _ oe rfl (by decide) (by decide))) | (go_at_call 55; with_reducible exact Calls.quiet_of (turn_any e 25 25 _ oe rfl (by decide) (by decide))))
          have hS1e : bits BinOp.xor IntKind.i64 (bits BinOp.xor IntKind.i64 ↑(Sh.rot e 6) ↑(Sh.rot e 11)) ↑(Sh.rot e 25) = ((Sh.S1 e : Nat) : Int) := by
            rw [i64_xor _ _ (Sh.rot_lt oe (by decide)) (Sh.rot_lt oe (by decide)), i64_xor _ _ (Sh.xor_lt (Sh.rot_lt oe (by decide)) (Sh.rot_lt oe (by decide))) (Sh.rot_lt oe (by decide))]
            rfl
          have lS1 := Sh.S1_lt oe
          have HT1 : Hid ((wrap64 (wrap64 (wrap64 (wrap64 ((h : Int) + bits BinOp.xor IntKind.i64 (bits BinOp.xor IntKind.i64 ↑(Sh.rot e 6) ↑(Sh.rot e 11)) ↑(Sh.rot e 25)) + (vch : Int)) + (kk : Int)) + (wk : Int))).tmod 4294967296 = ((Sh.tt ⟨a, b', c, d, e, f, g, h⟩ kk wk : Nat) : Int)) := by
            rw [Hid, hS1e, wrapA _ _ (by omega), wrapA _ _ (by omega), wrapA _ _ (by omega), wrapA _ _ (by omega), ← HCHV.out]
            exact (Int.ofNat_tmod _ 4294967296).symm
          rw [HT1.out]
          have ltt : Sh.tt ⟨a, b', c, d, e, f, g, h⟩ kk wk < 4294967296 := Nat.mod_lt _ (by decide)
          have HRND : Hid (Sh.rnd kk wk ⟨a, b', c, d, e, f, g, h⟩ = ⟨(Sh.tt ⟨a, b', c, d, e, f, g, h⟩ kk wk + Sh.uu ⟨a, b', c, d, e, f, g, h⟩) % 4294967296, a, b', c, (d + Sh.tt ⟨a, b', c, d, e, f, g, h⟩ kk wk) % 4294967296, e, f, g⟩) := Lib.hid rfl
          have HUU : Hid (Sh.uu ⟨a, b', c, d, e, f, g, h⟩ = (Sh.S0 a + vma) % 4294967296) := by rw [Hid, ← HMAV.out]; rfl
          clear HT1 hS1e lS1 HCHV HMAV
          generalize Sh.tt ⟨a, b', c, d, e, f, g, h⟩ kk wk = tt at *
          have Bx : Below wb.heap.size wb (wz.drewN nq) := Below.drewN' _ hb
          have K8 : Cells8 (wz.drewN nq) gv a b' c d e f g h := ⟨c0, c1, c2, c3, c4, c5, c6, c7⟩
          have ck2 : (wz.drewN nq).cell? ⟨gk, t, none⟩ = some (.int .i64 (kk : Nat)) := ck
          have cw2 : (wz.drewN nq).cell? ⟨gw, t, none⟩ = some (.int .i64 (wk : Nat)) := cw
          have hz2 : gv < (wz.drewN nq).heap.size := hgvz
          generalize wz.drewN nq = wv at *
          clear c0 c1 c2 c3 c4 c5 c6 c7 ck cw hb hgvz
          obtain ⟨c0, c1, c2, c3, c4, c5, c6, c7⟩ := K8
          have ck := ck2
          have cw := cw2
          have hb := Bx
          have hgvz := hz2
          clear ck2 cw2 Bx hz2
          go_wp2_with fail
          refine (turn_any a 2 2 wv oa rfl (by decide) (by decide)).mono ?_
          rintro _ _ ⟨rfl, n1, rfl⟩
          go_wp2_with fail
          refine (turn_any a 13 13 _ oa rfl (by decide) (by decide)).mono ?_
          rintro _ _ ⟨rfl, n2, rfl⟩
          go_wp2_with fail
          refine (turn_any a 22 22 _ oa rfl (by decide) (by decide)).mono ?_
          rintro _ _ ⟨rfl, n3, rfl⟩
          go_wp2_with fail
          have hS0e : bits BinOp.xor IntKind.i64 (bits BinOp.xor IntKind.i64 ↑(Sh.rot a 2) ↑(Sh.rot a 13)) ↑(Sh.rot a 22) = ((Sh.S0 a : Nat) : Int) := by
            rw [i64_xor _ _ (Sh.rot_lt oa (by decide)) (Sh.rot_lt oa (by decide)), i64_xor _ _ (Sh.xor_lt (Sh.rot_lt oa (by decide)) (Sh.rot_lt oa (by decide))) (Sh.rot_lt oa (by decide))]
            rfl
          have lS0 := Sh.S0_lt oa
          have HT2 : Hid ((wrap64 (bits BinOp.xor IntKind.i64 (bits BinOp.xor IntKind.i64 ↑(Sh.rot a 2) ↑(Sh.rot a 13)) ↑(Sh.rot a 22) + (vma : Int))).tmod 4294967296 = ((Sh.uu ⟨a, b', c, d, e, f, g, h⟩ : Nat) : Int)) := by
            rw [Hid, hS0e, wrapA _ _ (by omega), HUU.out]
            exact (Int.ofNat_tmod _ 4294967296).symm
          rw [HT2.out]
          have luu : Sh.uu ⟨a, b', c, d, e, f, g, h⟩ < 4294967296 := Nat.mod_lt _ (by decide)
          clear HT2 hS0e lS0 HUU
          generalize Sh.uu ⟨a, b', c, d, e, f, g, h⟩ = uu at *
          have Bx : Below wb.heap.size wb (wv.drewN (n1 + n2 + n3)) := Below.drewN' _ hb
          have K8 : Cells8 (wv.drewN (n1 + n2 + n3)) gv a b' c d e f g h := ⟨c0, c1, c2, c3, c4, c5, c6, c7⟩
          have ck2 : (wv.drewN (n1 + n2 + n3)).cell? ⟨gk, t, none⟩ = some (.int .i64 (kk : Nat)) := ck
          have cw2 : (wv.drewN (n1 + n2 + n3)).cell? ⟨gw, t, none⟩ = some (.int .i64 (wk : Nat)) := cw
          have hz2 : gv < (wv.drewN (n1 + n2 + n3)).heap.size := hgvz
          generalize wv.drewN (n1 + n2 + n3) = wq at *
          clear c0 c1 c2 c3 c4 c5 c6 c7 ck cw hb hgvz
          obtain ⟨c0, c1, c2, c3, c4, c5, c6, c7⟩ := K8
          have ck := ck2
          have cw := cw2
          have hb := Bx
          have hgvz := hz2
          clear ck2 cw2 Bx hz2
          have hA : (IntKind.i64.wrap ((tt : Int) + (uu : Int))).tmod 4294967296 = (((tt + uu) % 4294967296 : Nat) : Int) := by
            rw [IntWalk.i64_in _ (by omega), ← Int.natCast_add]
            exact (Int.ofNat_tmod _ 4294967296).symm
          have hE : (IntKind.i64.wrap ((d : Int) + (tt : Int))).tmod 4294967296 = (((d + tt) % 4294967296 : Nat) : Int) := by
            rw [IntWalk.i64_in _ (by omega), ← Int.natCast_add]
            exact (Int.ofNat_tmod _ 4294967296).symm
          generalize (tt + uu) % 4294967296 = na at *
          generalize (d + tt) % 4294967296 = ne at *
          have K9 : Cells8 wq gv a b' c d e f g h := ⟨c0, c1, c2, c3, c4, c5, c6, c7⟩
          have hS1 : ∀ o : Obj, Cells8 (wq.alloc o).drew gv a b' c d e f g h := fun o => K9.below ((((Below.refl wq.heap.size wq).alloc (Nat.le_refl _) o)).drew) hgvz
          clear c0 c1 c2 c3 c4 c5 c6 c7 ck cw
          refine wp_region_held_drew (S := fun w' => Cells8 w' gv a b' c d e f g h) (by kernel_rfl) ⟨K9.c0, K9.c1, K9.c2, K9.c3, K9.c4, K9.c5, K9.c6, K9.c7⟩ (fun hHeld => ?_)
          refine wpAnyH_take (i := 0) (oi := { dst := some 163, op := Op.move (Operand.tmp 20), type := 3, pos := "ref.go:159", after := #[], guard := none }) (v := ?_) rfl (by kernel_rfl) (by kernel_rfl) (by kernel_rfl) (fun _ _ _ h => h) (Or.inl ⟨by rfl, ?_⟩) hHeld ?_
          rotate_left
          · intro W0 hSw
            obtain ⟨s0, s1, s2, s3, s4, s5, s6, s7⟩ := hSw
            go_simp <;> with_reducible rfl
          simp only [Act.put, List.setIfInBounds_toArray, List.set_cons_zero, List.set_cons_succ]
          refine wpAnyH_take (i := 1) (oi := { dst := some 164, op := Op.move (Operand.tmp 21), type := 3, pos := "ref.go:159", after := #[], guard := none }) (v := ?_) rfl (by kernel_rfl) (by kernel_rfl) (by kernel_rfl) (fun _ _ _ h => h) (Or.inl ⟨by rfl, ?_⟩) hHeld ?_
          rotate_left
          · intro W0 hSw
            obtain ⟨s0, s1, s2, s3, s4, s5, s6, s7⟩ := hSw
            go_simp <;> with_reducible rfl
          simp only [Act.put, List.setIfInBounds_toArray, List.set_cons_zero, List.set_cons_succ]
          refine wpAnyH_take (i := 2) (oi := { dst := some 165, op := Op.binOp BinOp.add 3 (Operand.tmp 163) (Operand.tmp 164) 3, type := 3, pos := "ref.go:159", after := #[{ on := 0, ground := Ground.data }, { on := 1, ground := Ground.data }], guard := none }) (v := ?_) rfl (by kernel_rfl) (by kernel_rfl) (by kernel_rfl) (fun _ _ _ h => h) (Or.inl ⟨by rfl, ?_⟩) hHeld ?_
          rotate_left
          · intro W0 hSw
            obtain ⟨s0, s1, s2, s3, s4, s5, s6, s7⟩ := hSw
            go_simp <;> with_reducible rfl
          simp only [Act.put, List.setIfInBounds_toArray, List.set_cons_zero, List.set_cons_succ]
          refine wpAnyH_take (i := 3) (oi := { dst := some 166, op := Op.binOp BinOp.rem 3 (Operand.tmp 165) (Operand.const (Value.int IntKind.i64 4294967296)) 3, type := 3, pos := "ref.go:159", after := #[{ on := 2, ground := Ground.data }], guard := none }) (v := ?_) rfl (by kernel_rfl) (by kernel_rfl) (by kernel_rfl) (fun _ _ _ h => h) (Or.inl ⟨by rfl, ?_⟩) hHeld ?_
          rotate_left
          · intro W0 hSw
            obtain ⟨s0, s1, s2, s3, s4, s5, s6, s7⟩ := hSw
            go_simp <;> with_reducible rfl
          simp only [Act.put, List.setIfInBounds_toArray, List.set_cons_zero, List.set_cons_succ]
          refine wpAnyH_take (i := 4) (oi := { dst := some 167, op := Op.move (Operand.tmp 14), type := 23, pos := "ref.go:159", after := #[], guard := none }) (v := ?_) rfl (by kernel_rfl) (by kernel_rfl) (by kernel_rfl) (fun _ _ _ h => h) (Or.inl ⟨by rfl, ?_⟩) hHeld ?_
          rotate_left
          · intro W0 hSw
            obtain ⟨s0, s1, s2, s3, s4, s5, s6, s7⟩ := hSw
            go_simp <;> with_reducible rfl
          simp only [Act.put, List.setIfInBounds_toArray, List.set_cons_zero, List.set_cons_succ]
          refine wpAnyH_take (i := 5) (oi := { dst := some 168, op := Op.indexAddr 23 (Operand.tmp 167) (Operand.const (Value.int IntKind.i64 0)), type := 0, pos := "ref.go:159", after := #[{ on := 4, ground := Ground.data }], guard := none }) (v := ?_) rfl (by kernel_rfl) (by kernel_rfl) (by kernel_rfl) (fun _ _ _ h => h) (Or.inl ⟨by rfl, ?_⟩) hHeld ?_
          rotate_left
          · intro W0 hSw
            obtain ⟨s0, s1, s2, s3, s4, s5, s6, s7⟩ := hSw
            go_simp <;> with_reducible rfl
          simp only [Act.put, List.setIfInBounds_toArray, List.set_cons_zero, List.set_cons_succ]
          refine wpAnyH_take (i := 6) (oi := { dst := some 169, op := Op.load 3 (Operand.tmp 168), type := 3, pos := "ref.go:159", after := #[{ on := 5, ground := Ground.data }], guard := none }) (v := ?_) rfl (by kernel_rfl) (by kernel_rfl) (by kernel_rfl) (fun _ _ _ h => h) (Or.inl ⟨by rfl, ?_⟩) hHeld ?_
          rotate_left
          · intro W0 hSw
            obtain ⟨s0, s1, s2, s3, s4, s5, s6, s7⟩ := hSw
            go_simp <;> with_reducible rfl
          simp only [Act.put, List.setIfInBounds_toArray, List.set_cons_zero, List.set_cons_succ]
          refine wpAnyH_take (i := 7) (oi := { dst := some 170, op := Op.move (Operand.tmp 14), type := 23, pos := "ref.go:159", after := #[], guard := none }) (v := ?_) rfl (by kernel_rfl) (by kernel_rfl) (by kernel_rfl) (fun _ _ _ h => h) (Or.inl ⟨by rfl, ?_⟩) hHeld ?_
          rotate_left
          · intro W0 hSw
            obtain ⟨s0, s1, s2, s3, s4, s5, s6, s7⟩ := hSw
            go_simp <;> with_reducible rfl
          simp only [Act.put, List.setIfInBounds_toArray, List.set_cons_zero, List.set_cons_succ]
          refine wpAnyH_take (i := 8) (oi := { dst := some 171, op := Op.indexAddr 23 (Operand.tmp 170) (Operand.const (Value.int IntKind.i64 1)), type := 0, pos := "ref.go:159", after := #[{ on := 7, ground := Ground.data }], guard := none }) (v := ?_) rfl (by kernel_rfl) (by kernel_rfl) (by kernel_rfl) (fun _ _ _ h => h) (Or.inl ⟨by rfl, ?_⟩) hHeld ?_
          rotate_left
          · intro W0 hSw
            obtain ⟨s0, s1, s2, s3, s4, s5, s6, s7⟩ := hSw
            go_simp <;> with_reducible rfl
          simp only [Act.put, List.setIfInBounds_toArray, List.set_cons_zero, List.set_cons_succ]
          refine wpAnyH_take (i := 9) (oi := { dst := some 172, op := Op.load 3 (Operand.tmp 171), type := 3, pos := "ref.go:159", after := #[{ on := 8, ground := Ground.data }], guard := none }) (v := ?_) rfl (by kernel_rfl) (by kernel_rfl) (by kernel_rfl) (fun _ _ _ h => h) (Or.inl ⟨by rfl, ?_⟩) hHeld ?_
          rotate_left
          · intro W0 hSw
            obtain ⟨s0, s1, s2, s3, s4, s5, s6, s7⟩ := hSw
            go_simp <;> with_reducible rfl
          simp only [Act.put, List.setIfInBounds_toArray, List.set_cons_zero, List.set_cons_succ]
          refine wpAnyH_take (i := 10) (oi := { dst := some 173, op := Op.move (Operand.tmp 14), type := 23, pos := "ref.go:159", after := #[], guard := none }) (v := ?_) rfl (by kernel_rfl) (by kernel_rfl) (by kernel_rfl) (fun _ _ _ h => h) (Or.inl ⟨by rfl, ?_⟩) hHeld ?_
          rotate_left
          · intro W0 hSw
            obtain ⟨s0, s1, s2, s3, s4, s5, s6, s7⟩ := hSw
            go_simp <;> with_reducible rfl
          simp only [Act.put, List.setIfInBounds_toArray, List.set_cons_zero, List.set_cons_succ]
          refine wpAnyH_take (i := 11) (oi := { dst := some 174, op := Op.indexAddr 23 (Operand.tmp 173) (Operand.const (Value.int IntKind.i64 2)), type := 0, pos := "ref.go:159", after := #[{ on := 10, ground := Ground.data }], guard := none }) (v := ?_) rfl (by kernel_rfl) (by kernel_rfl) (by kernel_rfl) (fun _ _ _ h => h) (Or.inl ⟨by rfl, ?_⟩) hHeld ?_
          rotate_left
          · intro W0 hSw
            obtain ⟨s0, s1, s2, s3, s4, s5, s6, s7⟩ := hSw
            go_simp <;> with_reducible rfl
          simp only [Act.put, List.setIfInBounds_toArray, List.set_cons_zero, List.set_cons_succ]
          refine wpAnyH_take (i := 12) (oi := { dst := some 175, op := Op.load 3 (Operand.tmp 174), type := 3, pos := "ref.go:159", after := #[{ on := 11, ground := Ground.data }], guard := none }) (v := ?_) rfl (by kernel_rfl) (by kernel_rfl) (by kernel_rfl) (fun _ _ _ h => h) (Or.inl ⟨by rfl, ?_⟩) hHeld ?_
          rotate_left
          · intro W0 hSw
            obtain ⟨s0, s1, s2, s3, s4, s5, s6, s7⟩ := hSw
            go_simp <;> with_reducible rfl
          simp only [Act.put, List.setIfInBounds_toArray, List.set_cons_zero, List.set_cons_succ]
          refine wpAnyH_take (i := 13) (oi := { dst := some 176, op := Op.move (Operand.tmp 14), type := 23, pos := "ref.go:159", after := #[], guard := none }) (v := ?_) rfl (by kernel_rfl) (by kernel_rfl) (by kernel_rfl) (fun _ _ _ h => h) (Or.inl ⟨by rfl, ?_⟩) hHeld ?_
          rotate_left
          · intro W0 hSw
            obtain ⟨s0, s1, s2, s3, s4, s5, s6, s7⟩ := hSw
            go_simp <;> with_reducible rfl
          simp only [Act.put, List.setIfInBounds_toArray, List.set_cons_zero, List.set_cons_succ]
          refine wpAnyH_take (i := 14) (oi := { dst := some 177, op := Op.indexAddr 23 (Operand.tmp 176) (Operand.const (Value.int IntKind.i64 3)), type := 0, pos := "ref.go:159", after := #[{ on := 13, ground := Ground.data }], guard := none }) (v := ?_) rfl (by kernel_rfl) (by kernel_rfl) (by kernel_rfl) (fun _ _ _ h => h) (Or.inl ⟨by rfl, ?_⟩) hHeld ?_
          rotate_left
          · intro W0 hSw
            obtain ⟨s0, s1, s2, s3, s4, s5, s6, s7⟩ := hSw
            go_simp <;> with_reducible rfl
          simp only [Act.put, List.setIfInBounds_toArray, List.set_cons_zero, List.set_cons_succ]
          refine wpAnyH_take (i := 15) (oi := { dst := some 178, op := Op.load 3 (Operand.tmp 177), type := 3, pos := "ref.go:159", after := #[{ on := 14, ground := Ground.data }], guard := none }) (v := ?_) rfl (by kernel_rfl) (by kernel_rfl) (by kernel_rfl) (fun _ _ _ h => h) (Or.inl ⟨by rfl, ?_⟩) hHeld ?_
          rotate_left
          · intro W0 hSw
            obtain ⟨s0, s1, s2, s3, s4, s5, s6, s7⟩ := hSw
            go_simp <;> with_reducible rfl
          simp only [Act.put, List.setIfInBounds_toArray, List.set_cons_zero, List.set_cons_succ]
          refine wpAnyH_take (i := 16) (oi := { dst := some 179, op := Op.move (Operand.tmp 20), type := 3, pos := "ref.go:159", after := #[], guard := none }) (v := ?_) rfl (by kernel_rfl) (by kernel_rfl) (by kernel_rfl) (fun _ _ _ h => h) (Or.inl ⟨by rfl, ?_⟩) hHeld ?_
          rotate_left
          · intro W0 hSw
            obtain ⟨s0, s1, s2, s3, s4, s5, s6, s7⟩ := hSw
            go_simp <;> with_reducible rfl
          simp only [Act.put, List.setIfInBounds_toArray, List.set_cons_zero, List.set_cons_succ]
          refine wpAnyH_take (i := 17) (oi := { dst := some 180, op := Op.binOp BinOp.add 3 (Operand.tmp 178) (Operand.tmp 179) 3, type := 3, pos := "ref.go:159", after := #[{ on := 15, ground := Ground.data }, { on := 16, ground := Ground.data }], guard := none }) (v := ?_) rfl (by kernel_rfl) (by kernel_rfl) (by kernel_rfl) (fun _ _ _ h => h) (Or.inl ⟨by rfl, ?_⟩) hHeld ?_
          rotate_left
          · intro W0 hSw
            obtain ⟨s0, s1, s2, s3, s4, s5, s6, s7⟩ := hSw
            go_simp <;> with_reducible rfl
          simp only [Act.put, List.setIfInBounds_toArray, List.set_cons_zero, List.set_cons_succ]
          refine wpAnyH_take (i := 18) (oi := { dst := some 181, op := Op.binOp BinOp.rem 3 (Operand.tmp 180) (Operand.const (Value.int IntKind.i64 4294967296)) 3, type := 3, pos := "ref.go:159", after := #[{ on := 17, ground := Ground.data }], guard := none }) (v := ?_) rfl (by kernel_rfl) (by kernel_rfl) (by kernel_rfl) (fun _ _ _ h => h) (Or.inl ⟨by rfl, ?_⟩) hHeld ?_
          rotate_left
          · intro W0 hSw
            obtain ⟨s0, s1, s2, s3, s4, s5, s6, s7⟩ := hSw
            go_simp <;> with_reducible rfl
          simp only [Act.put, List.setIfInBounds_toArray, List.set_cons_zero, List.set_cons_succ]
          refine wpAnyH_take (i := 19) (oi := { dst := some 182, op := Op.move (Operand.tmp 14), type := 23, pos := "ref.go:159", after := #[], guard := none }) (v := ?_) rfl (by kernel_rfl) (by kernel_rfl) (by kernel_rfl) (fun _ _ _ h => h) (Or.inl ⟨by rfl, ?_⟩) hHeld ?_
          rotate_left
          · intro W0 hSw
            obtain ⟨s0, s1, s2, s3, s4, s5, s6, s7⟩ := hSw
            go_simp <;> with_reducible rfl
          simp only [Act.put, List.setIfInBounds_toArray, List.set_cons_zero, List.set_cons_succ]
          refine wpAnyH_take (i := 20) (oi := { dst := some 183, op := Op.indexAddr 23 (Operand.tmp 182) (Operand.const (Value.int IntKind.i64 4)), type := 0, pos := "ref.go:159", after := #[{ on := 19, ground := Ground.data }], guard := none }) (v := ?_) rfl (by kernel_rfl) (by kernel_rfl) (by kernel_rfl) (fun _ _ _ h => h) (Or.inl ⟨by rfl, ?_⟩) hHeld ?_
          rotate_left
          · intro W0 hSw
            obtain ⟨s0, s1, s2, s3, s4, s5, s6, s7⟩ := hSw
            go_simp <;> with_reducible rfl
          simp only [Act.put, List.setIfInBounds_toArray, List.set_cons_zero, List.set_cons_succ]
          refine wpAnyH_take (i := 21) (oi := { dst := some 184, op := Op.load 3 (Operand.tmp 183), type := 3, pos := "ref.go:159", after := #[{ on := 20, ground := Ground.data }], guard := none }) (v := ?_) rfl (by kernel_rfl) (by kernel_rfl) (by kernel_rfl) (fun _ _ _ h => h) (Or.inl ⟨by rfl, ?_⟩) hHeld ?_
          rotate_left
          · intro W0 hSw
            obtain ⟨s0, s1, s2, s3, s4, s5, s6, s7⟩ := hSw
            go_simp <;> with_reducible rfl
          simp only [Act.put, List.setIfInBounds_toArray, List.set_cons_zero, List.set_cons_succ]
          refine wpAnyH_take (i := 22) (oi := { dst := some 185, op := Op.move (Operand.tmp 14), type := 23, pos := "ref.go:159", after := #[], guard := none }) (v := ?_) rfl (by kernel_rfl) (by kernel_rfl) (by kernel_rfl) (fun _ _ _ h => h) (Or.inl ⟨by rfl, ?_⟩) hHeld ?_
          rotate_left
          · intro W0 hSw
            obtain ⟨s0, s1, s2, s3, s4, s5, s6, s7⟩ := hSw
            go_simp <;> with_reducible rfl
          simp only [Act.put, List.setIfInBounds_toArray, List.set_cons_zero, List.set_cons_succ]
          refine wpAnyH_take (i := 23) (oi := { dst := some 186, op := Op.indexAddr 23 (Operand.tmp 185) (Operand.const (Value.int IntKind.i64 5)), type := 0, pos := "ref.go:159", after := #[{ on := 22, ground := Ground.data }], guard := none }) (v := ?_) rfl (by kernel_rfl) (by kernel_rfl) (by kernel_rfl) (fun _ _ _ h => h) (Or.inl ⟨by rfl, ?_⟩) hHeld ?_
          rotate_left
          · intro W0 hSw
            obtain ⟨s0, s1, s2, s3, s4, s5, s6, s7⟩ := hSw
            go_simp <;> with_reducible rfl
          simp only [Act.put, List.setIfInBounds_toArray, List.set_cons_zero, List.set_cons_succ]
          refine wpAnyH_take (i := 24) (oi := { dst := some 187, op := Op.load 3 (Operand.tmp 186), type := 3, pos := "ref.go:159", after := #[{ on := 23, ground := Ground.data }], guard := none }) (v := ?_) rfl (by kernel_rfl) (by kernel_rfl) (by kernel_rfl) (fun _ _ _ h => h) (Or.inl ⟨by rfl, ?_⟩) hHeld ?_
          rotate_left
          · intro W0 hSw
            obtain ⟨s0, s1, s2, s3, s4, s5, s6, s7⟩ := hSw
            go_simp <;> with_reducible rfl
          simp only [Act.put, List.setIfInBounds_toArray, List.set_cons_zero, List.set_cons_succ]
          refine wpAnyH_take (i := 25) (oi := { dst := some 188, op := Op.move (Operand.tmp 14), type := 23, pos := "ref.go:159", after := #[], guard := none }) (v := ?_) rfl (by kernel_rfl) (by kernel_rfl) (by kernel_rfl) (fun _ _ _ h => h) (Or.inl ⟨by rfl, ?_⟩) hHeld ?_
          rotate_left
          · intro W0 hSw
            obtain ⟨s0, s1, s2, s3, s4, s5, s6, s7⟩ := hSw
            go_simp <;> with_reducible rfl
          simp only [Act.put, List.setIfInBounds_toArray, List.set_cons_zero, List.set_cons_succ]
          refine wpAnyH_take (i := 26) (oi := { dst := some 189, op := Op.indexAddr 23 (Operand.tmp 188) (Operand.const (Value.int IntKind.i64 6)), type := 0, pos := "ref.go:159", after := #[{ on := 25, ground := Ground.data }], guard := none }) (v := ?_) rfl (by kernel_rfl) (by kernel_rfl) (by kernel_rfl) (fun _ _ _ h => h) (Or.inl ⟨by rfl, ?_⟩) hHeld ?_
          rotate_left
          · intro W0 hSw
            obtain ⟨s0, s1, s2, s3, s4, s5, s6, s7⟩ := hSw
            go_simp <;> with_reducible rfl
          simp only [Act.put, List.setIfInBounds_toArray, List.set_cons_zero, List.set_cons_succ]
          refine wpAnyH_take (i := 27) (oi := { dst := some 190, op := Op.load 3 (Operand.tmp 189), type := 3, pos := "ref.go:159", after := #[{ on := 26, ground := Ground.data }], guard := none }) (v := ?_) rfl (by kernel_rfl) (by kernel_rfl) (by kernel_rfl) (fun _ _ _ h => h) (Or.inl ⟨by rfl, ?_⟩) hHeld ?_
          rotate_left
          · intro W0 hSw
            obtain ⟨s0, s1, s2, s3, s4, s5, s6, s7⟩ := hSw
            go_simp <;> with_reducible rfl
          simp only [Act.put, List.setIfInBounds_toArray, List.set_cons_zero, List.set_cons_succ]
          refine wpAnyH_ready (rs := [28]) (by kernel_rfl) (by simp) ?_
          refine AllReadyH.cons (o := { dst := some 191, op := Op.buildSlice 23 8 #[(0, Operand.tmp 166), (1, Operand.tmp 169), (2, Operand.tmp 172), (3, Operand.tmp 175), (4, Operand.tmp 181), (5, Operand.tmp 184), (6, Operand.tmp 187), (7, Operand.tmp 190)], type := 23, pos := "ref.go:159", after := #[{ on := 3, ground := Ground.data }, { on := 6, ground := Ground.data }, { on := 9, ground := Ground.data }, { on := 12, ground := Ground.data }, { on := 18, ground := Ground.data }, { on := 21, ground := Ground.data }, { on := 24, ground := Ground.data }, { on := 27, ground := Ground.data }], guard := none }) rfl (fun K hK => ?_) AllReadyH.nil
          go_simp
          refine hK.out _ _ (hS1 _) (fun hHeld => ?_)
          clear hK K
          try simp only [Act.put, List.setIfInBounds_toArray, List.set_cons_zero, List.set_cons_succ]
          refine wpAnyH_take (i := 29) (oi := { dst := some 14, op := Op.assign (Operand.tmp 191), type := 23, pos := "ref.go:159", after := #[{ on := 28, ground := Ground.data }, { on := 0, ground := Ground.phase }, { on := 1, ground := Ground.phase }, { on := 2, ground := Ground.phase }, { on := 3, ground := Ground.phase }, { on := 4, ground := Ground.phase }, { on := 5, ground := Ground.phase }, { on := 6, ground := Ground.phase }, { on := 7, ground := Ground.phase }, { on := 8, ground := Ground.phase }, { on := 9, ground := Ground.phase }, { on := 10, ground := Ground.phase }, { on := 11, ground := Ground.phase }, { on := 12, ground := Ground.phase }, { on := 13, ground := Ground.phase }, { on := 14, ground := Ground.phase }, { on := 15, ground := Ground.phase }, { on := 16, ground := Ground.phase }, { on := 17, ground := Ground.phase }, { on := 18, ground := Ground.phase }, { on := 19, ground := Ground.phase }, { on := 20, ground := Ground.phase }, { on := 21, ground := Ground.phase }, { on := 22, ground := Ground.phase }, { on := 23, ground := Ground.phase }, { on := 24, ground := Ground.phase }, { on := 25, ground := Ground.phase }, { on := 26, ground := Ground.phase }, { on := 27, ground := Ground.phase }, { on := 28, ground := Ground.phase }], guard := none }) (v := ?_) rfl (by kernel_rfl) (by kernel_rfl) (by kernel_rfl) (fun _ _ _ h => h) (Or.inl ⟨by rfl, ?_⟩) hHeld ?_
          rotate_left
          · intro W0 hSw
            obtain ⟨s0, s1, s2, s3, s4, s5, s6, s7⟩ := hSw
            go_simp <;> with_reducible rfl
          simp only [Act.put, List.setIfInBounds_toArray, List.set_cons_zero, List.set_cons_succ]
          refine wpAnyH_done (by kernel_rfl) ?_ _
          have HOn : OwnI (wq.alloc (.cells #[.int .i64 (na : Nat), .int .i64 (a : Nat), .int .i64 (b' : Nat), .int .i64 (c : Nat), .int .i64 (ne : Nat), .int .i64 (e : Nat), .int .i64 (f : Nat), .int .i64 (g : Nat)] 3)).drew wa.heap.size (.slice (some ⟨wq.heap.size, 0, none⟩) 8 8) (Sh.St.list ⟨na, a, b', c, ne, e, f, g⟩) :=
            ⟨rfl, .inr ⟨wq.heap.size, 8, _, rfl, Nat.le_trans hbsz hb.size, heap_alloc_new _ _, Nat.le_refl _, by decide, rfl, rfl⟩⟩
          have bn : Below wb.heap.size wb (wq.alloc (.cells #[.int .i64 (na : Nat), .int .i64 (a : Nat), .int .i64 (b' : Nat), .int .i64 (c : Nat), .int .i64 (ne : Nat), .int .i64 (e : Nat), .int .i64 (f : Nat), .int .i64 (g : Nat)] 3)).drew := (hb.alloc hb.size _).drew
          clear hS1 hHeld K9 hA hE
          go_wp2
          go_roundw
          case rel => exact ⟨t + 1, ⟨na, a, b', c, ne, e, f, g⟩, by omega, by go_num, by rw [Hid, HE.out, HRND.out], HOn, bn⟩
          case measure => simp [intOf]; omega
        · obtain rfl : t = 64 := by omega
          have HP : Hid (Sh.plus (Sh.rds st) (Sh.rn L (Sh.rds st) 64) = Sh.plus v0 u) := by rw [Hid, HV0.out, HU.out]
          obtain ⟨ga, capa, rfl, hga, hca⟩ := HGA.out
          have HCA := Lib.hid hca
          obtain ⟨gv, capv, rfl, hgvb, hgvz, hcv⟩ := HO.block (by simp [Sh.St.list])
          have hl8 : u.list.length = 8 := rfl
          rw [hl8] at HO ⊢
          have bw := bwb.trans (hb.mono bwb.size)
          have HA0 : ∀ j, j < 8 → wr.cell? ⟨ga, j, none⟩ = some (.int .i64 (v0.list.getD j 0 : Nat)) := fun j hj => (hb.cell (p := ⟨ga, j, none⟩) (show ga < wb.heap.size by omega)).trans (hca j hj)
          have HA1 := Lib.hid HA0
          have hwa : w.heap.size ≤ wa.heap.size := HSZA.out
          have hne : ¬ ga = gv := by omega
          clear hcv hca HCW HCK hb bwb HA0
          go_wp2_with fail
          go_loopw [22] (fun iv wr => ∃ i : Nat, i ≤ 8 ∧ iv = .int .i64 (i : Nat) ∧ OwnI wr wa.heap.size (.slice (some ⟨gv, 0, none⟩) 8 capv) ((Sh.plus v0 u).list.take i ++ u.list.drop i) ∧ Below w.heap.size w wr ∧ Hid (∀ j, j < 8 → wr.cell? ⟨ga, j, none⟩ = some (.int .i64 (v0.list.getD j 0 : Nat)))) (fun iv _ => 8 - (intOf iv).toNat)
          case atStart => exact ⟨0, by omega, rfl, HO, bw, HA1⟩
          case round =>
            obtain ⟨i, hi8, rfl, HO3, hb3, HA3⟩ := hrel
            clear HO bw HA1
            have HML : Hid (((Sh.plus v0 u).list.take i ++ u.list.drop i).length = 8) := by rw [Hid, List.length_append, List.length_take, List.length_drop, show (Sh.plus v0 u).list.length = 8 from rfl, show u.list.length = 8 from rfl]; omega
            by_cases hlt : i < 8
            · have hmix := mix_at (Sh.plus v0 u).list u.list 8 i rfl rfl hlt
              have hset := mix_set (Sh.plus v0 u).list u.list 8 i rfl rfl hlt
              have hpl : (Sh.plus v0 u).list.getD i 0 = (u.list.getD i 0 + v0.list.getD i 0) % 4294967296 := plus_at v0 u i hlt
              have ca := HA3.out i hlt
              obtain ⟨g', cap', e1, hgb3, hgz3, hc3⟩ := HO3.block (by rw [HML.out]; decide)
              rw [HML.out] at e1 hc3
              injection e1 with e1 _ e3
              injection e1 with e1
              injection e1 with e1
              subst e1 e3
              have cv := hc3 i hlt
              rw [hmix] at cv
              have hfz := HO3.frozen i
              have HOS := Lib.hid (HO3.set (x := (Sh.plus v0 u).list.getD i 0) i)
              rw [hset, hpl] at HOS
              have l1 : u.list.getD i 0 < 4294967296 := st_at HUO i
              have l2 : v0.list.getD i 0 < 4294967296 := st_at HO32 i
              clear hc3 hmix hset hpl
              generalize u.list.getD i 0 = x at *
              generalize v0.list.getD i 0 = y at *
              have cv' : wr.drew.cell? ⟨gv, i, none⟩ = some (.int .i64 (x : Nat)) := cv
              have ca' : wr.drew.cell? ⟨ga, i, none⟩ = some (.int .i64 (y : Nat)) := ca
              have hfz' : wr.drew.frozen? ⟨gv, i, none⟩ = false := hfz
              have hb' : Below w.heap.size w wr.drew := hb3.drew
              have HA' : Hid (∀ j, j < 8 → wr.drew.cell? ⟨ga, j, none⟩ = some (.int .i64 (v0.list.getD j 0 : Nat))) := HA3
              have HOS' : Hid (OwnI (wr.drew.setCell ⟨gv, i, none⟩ (.int .i64 (((x + y) % 4294967296 : Nat) : Int))) wa.heap.size (.slice (some ⟨gv, 0, none⟩) 8 capv) ((Sh.plus v0 u).list.take (i + 1) ++ u.list.drop (i + 1))) := HOS
              have hs1 : (IntKind.i64.wrap ((x : Int) + (y : Int))).tmod 4294967296 = (((x + y) % 4294967296 : Nat) : Int) := by
                rw [IntWalk.i64_in _ (by omega), ← Int.natCast_add]
                exact (Int.ofNat_tmod _ 4294967296).symm
              generalize (x + y) % 4294967296 = z at *
              have hi8' : (i : Int) < 8 := by omega
              go_wp2_with fail
              refine wp_region_still_tail 13 (by kernel_rfl) (by kernel_rfl) ?_
              change wpStill _ _ (World.drew _) (fun a' => wpList _ _ _ _ a' (World.drew _)) _ _
              generalize wr.drew = wx at *
              clear cv ca hfz hb3 HA3 HO3 HOS
              simp only [List.take_succ_cons, List.take_zero, List.drop_succ_cons, List.drop_zero]
              repeat still_step
              refine wpStill_nil ?_
              have HA4 : Hid (∀ j, j < 8 → (wx.setCell ⟨gv, i, none⟩ (.int .i64 (z : Nat))).cell? ⟨ga, j, none⟩ = some (.int .i64 (v0.list.getD j 0 : Nat))) := fun j hj =>
                (World.cell?_of_block (w := wx) (a := ⟨ga, j, none⟩) (heap_setCell_other _ _ _ _ (show ga ≠ gv from hne))).trans (HA'.out j hj)
              have b4 : Below w.heap.size w (wx.setCell ⟨gv, i, none⟩ (.int .i64 (z : Nat))) := hb'.setCell (show w.heap.size ≤ gv by omega) _
              go_wp2
              refine ⟨⟨_, _, _, _, _, _, _, _, _, _, _, _, _, _, _, _, _, _, ⟨i + 1, by omega, ?_, HOS'.out, b4, HA4⟩, rfl⟩, ?_⟩
              · go_num
              · simp [intOf]; omega
            · obtain rfl : i = 8 := by omega
              have e8 : (Sh.plus v0 u).list.take 8 ++ u.list.drop 8 = (Sh.plus v0 u).list := by rw [List.take_of_length_le (Nat.le_refl 8), List.drop_of_length_le (Nat.le_refl 8), List.append_nil]
              rw [e8] at HO3
              have HI := HO3.ints (by simp [Sh.St.list])
              have HPB := Lib.hid (st_mem (Sh.plus_ok v0 u))
              have HTX : Hid (bl (Sh.plus v0 u).list = Sh.txt (Sh.plus v0 u)) := Lib.hid rfl
              clear e8 HO3 HML
              go_wp2_with fail
              refine (bytes_any _ (Sh.plus v0 u).list wr HI HPB (by simp [Sh.St.list])).mono ?_
              rintro _ w9 ⟨rfl, hb9⟩
              have b9 := hb3.trans (hb9.mono hb3.size)
              rw [HTX.out]
              clear HI hb9 hb3 HPB HTX
              go_wp2
              go_ret
              exact ⟨by rw [HP.out]; rfl, b9⟩
end Go.Proofs.YtihgglplbanegaaDoor
