/- The document's answer: Pad. -/
import Derived.Test.YtihgglplbanegaaDoorShaV4
namespace Go.Proofs.YtihgglplbanegaaDoor
open Go.RowKit

theorem tmod_ne {x : Int} (h : ¬ x % 64 = 0) : (x.tmod 64 != 0) = true := by
  rw [bne_iff_ne]
  intro e
  exact h (Int.emod_eq_zero_of_dvd (Int.dvd_of_tmod_eq_zero e))
theorem tmod_eq {x : Int} (h : x % 64 = 0) : (x.tmod 64 != 0) = false := by
  rw [bne_eq_false_iff_eq]
  exact Int.tmod_eq_zero_of_dvd (Int.dvd_of_emod_eq_zero h)
theorem noughts_ne {n j : Nat} (hj : j < Sh.noughts n) : ¬ (wrap64 (wrap64 ((n : Int) + ((j : Int) + 1)) + 8)) % 64 = 0 := by
  unfold Sh.noughts at hj
  unfold wrap64
  omega
theorem noughts_eq {n j : Nat} (hj : j = Sh.noughts n) : (wrap64 (wrap64 ((n : Int) + ((j : Int) + 1)) + 8)) % 64 = 0 := by
  unfold Sh.noughts at hj
  unfold wrap64
  omega

set_option maxRecDepth 100000 in
set_option maxHeartbeats 1000000 in
theorem refPad_any (n : Nat) (w : World) (hn : n ≤ 9223372036854775807) :
    Calls Tryd.prog 47 #[.int .i64 n] w fun e w' => e = .returned (.string ⟨⟨Sh.pad n⟩⟩) ∧ Below w.heap.size w w' := by
  have hz64 : Sh.noughts n ≤ 64 := by unfold Sh.noughts; omega
  go_enter Tryd.func47, Tryd.ntmps47
  go_wp2_with fail
  have HO0 : OwnB (w.alloc (.cells #[.int .u8 ((128 : UInt8).toNat : Nat)] 5)) w.heap.size (.slice (some ⟨w.heap.size, 0, none⟩) 1 1) (128 :: List.replicate 0 0) :=
    ⟨by simp [bvals], .inr ⟨w.heap.size, 1, _, rfl, Nat.le_refl _, heap_alloc_new _ _, Nat.le_refl _, by decide, rfl, rfl⟩⟩
  go_loopw [3] (fun v wr => ∃ j : Nat, j ≤ Sh.noughts n ∧ OwnB wr w.heap.size v (128 :: List.replicate j 0) ∧ Below w.heap.size w wr) (fun v _ => 100 - (match v with | .slice _ l _ => l | _ => 0))
  case atStart => exact ⟨0, by omega, HO0, (Below.refl _ _).alloc (Nat.le_refl _) _⟩
  case round =>
    obtain ⟨j, hj, HO, hb⟩ := hrel
    obtain ⟨g, cap, cur, rfl, hgb, hcur, hcs⟩ := HO.form (by simp)
    have hzw := hb.size
    clear hcur hcs HO0
    by_cases hlt : j < Sh.noughts n
    · have hc := tmod_ne (noughts_ne hlt)
      have hl : (128 :: List.replicate j (0 : UInt8)).length = j + 1 := by simp
      have HL : Hid ((128 :: List.replicate j (0 : UInt8)).length ≤ 1000000) := by rw [Hid, hl]; omega
      rw [hl] at HO ⊢
      clear hl
      go_wp2_with (at_builtin; refine wpList_appB wr rfl (.tmp 15) (.tmp 16) rfl w.heap.size _ (128 :: List.replicate j 0) 0 rfl rfl HO HL.out hzw ?_)
      intro v2 w2 HO2 hb2
      have e1 : (128 :: List.replicate j (0 : UInt8)) ++ [0] = 128 :: List.replicate (j + 1) 0 := by rw [List.cons_append, List.replicate_succ']
      have HO3 : OwnB w2 w.heap.size v2 (128 :: List.replicate (j + 1) 0) := by rw [← e1]; simpa using HO2
      have b2 := hb.trans hb2
      obtain ⟨g2, cap2, cur2, rfl, _, _, _⟩ := HO3.form (by simp)
      have HO4 := Lib.hid HO3
      have hl2 : (128 :: List.replicate (j + 1) (0 : UInt8)).length = j + 2 := by simp
      rw [hl2]
      rw [hl2] at HO4
      clear HO2 HO3 HO e1 hl2
      go_wp2
      go_roundw
      case rel => exact ⟨j + 1, by omega, HO4.out, b2⟩
      case measure => simp; omega
    · obtain rfl : j = Sh.noughts n := by omega
      have hc := tmod_eq (noughts_eq (n := n) rfl)
      have hl : (128 :: List.replicate (Sh.noughts n) (0 : UInt8)).length = Sh.noughts n + 1 := by simp
      have HP : Hid (Sh.pad n = (128 :: List.replicate (Sh.noughts n) 0) ++ (Sh.cnt n).take 8) := by rw [Hid, List.take_of_length_le (by simp [Sh.cnt])]; rfl
      have HCS := Lib.hid (cnt_snoc n)
      have HLC : Hid (∀ k, ((128 :: List.replicate (Sh.noughts n) 0) ++ (Sh.cnt n).take k).length ≤ 100) := by
        intro k
        simp [Sh.cnt]
        omega
      have hcn : IntKind.u64.wrap ((n : Int) * 8) = ((8 * n % 18446744073709551616 : Nat) : Int) := by rw [IntKind.wrap_u64]; omega
      rw [hl] at HO ⊢
      clear hl hlt hj
      generalize 8 * n % 18446744073709551616 = c at *
      generalize Sh.noughts n = z at *
      generalize Sh.cnt n = L at *
      have HO' : OwnB wr w.heap.size (.slice (some ⟨g, 0, none⟩) (z + 1) cap) ((128 :: List.replicate z 0) ++ L.take 0) := by rw [List.take_zero, List.append_nil]; exact HO
      go_wp2_with fail
      go_loopw [3, 4] (fun v i wr => ∃ k : Nat, k ≤ 8 ∧ i = .int .i64 (7 - (k : Int)) ∧ OwnB wr w.heap.size v ((128 :: List.replicate z 0) ++ L.take k) ∧ Below w.heap.size w wr) (fun _ i _ => (intOf i + 1).toNat)
      case atStart => exact ⟨0, by omega, rfl, HO', hb⟩
      case round =>
        obtain ⟨k, hk, rfl, HO1, hb1⟩ := hrel
        clear HO HO' hb hc
        by_cases hlt : k < 8
        · obtain ⟨m, hm⟩ : ∃ m : Nat, m = 7 - k := ⟨_, rfl⟩
          have hmk : (7 - (k : Int)) = (m : Int) := by omega
          have hm7 : m ≤ 7 := by omega
          have hv : (c : Int) / 2 ^ (8 * m) % 256 = ((Sh.byt (c / 2 ^ (8 * m))).toNat : Nat) := by
            rw [Sh.byt, UInt8.toNat_ofNat']
            simp
          have HS := Lib.hid (HCS.out k hlt)
          rw [← hm] at HS
          have HL1 := Lib.hid (HLC.out k)
          have HM := Lib.hid hm
          rw [hmk]
          clear hmk hm
          generalize Sh.byt (c / 2 ^ (8 * m)) = d at *
          have hz1 := hb1.size
          go_wp2_with (at_builtin; refine wpList_appB wr rfl (.tmp 22) (.tmp 30) rfl w.heap.size _ _ d rfl rfl HO1 (by have := HL1.out; omega) hz1 ?_)
          intro v2 w2 HO2 hb2
          go_wp2
          go_roundw
          case rel => exact ⟨k + 1, by omega, by have := HM.out; go_num, by rw [HS.out]; simpa using HO2, hb1.trans hb2⟩
          case measure => simp [intOf]
        · obtain rfl : k = 8 := by omega
          have HL1 := Lib.hid (HLC.out 8)
          rw [← HP.out] at HO1 HL1
          have hpos : 0 < (Sh.pad n).length := by rw [HP.out]; simp
          generalize hpl : Sh.pad n = l at *
          have HPL := Lib.hid hpl
          clear hpl HP HCS HLC
          obtain ⟨g3, cap3, cur3, rfl, hgb3, hcur3, hcs3⟩ := HO1.form hpos
          have hcv := conv_any wr g3 cap3 l 5 (0, 0) cur3 hcur3 hcs3
          clear hcs3 hcur3
          rw [show (7 - ((8 : Nat) : Int)) = -1 by rfl]
          go_wp2
          go_ret
          exact ⟨by rw [HPL.out]; rfl, hb1⟩
end Go.Proofs.YtihgglplbanegaaDoor
