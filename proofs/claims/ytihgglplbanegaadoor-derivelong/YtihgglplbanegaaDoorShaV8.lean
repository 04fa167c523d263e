/- The document's answer: Keys, Start. -/
import Derived.Test.YtihgglplbanegaaDoorShaV3
import Derived.Test.YtihgglplbanegaaDoorShaV6
import Derived.Test.YtihgglplbanegaaDoorShaV7
namespace Go.Proofs.YtihgglplbanegaaDoor
open Go.RowKit

theorem key_at (k : Nat) (hk : k < 64) : Sh.root (Sh.PR.getD k 0) true = Sh.KK.getD k 0 := by
  rw [← Sh.cubes, List.getD_eq_getElem?_getD, List.getD_eq_getElem?_getD, List.getElem?_map, List.getElem?_eq_getElem (show k < Sh.PR.length from hk), Option.map_some, Option.getD_some, Option.getD_some]
theorem sq_at (k : Nat) (hk : k < 8) : Sh.root (Sh.PR.getD k 0) false = Sh.SQ.getD k 0 := by
  have h : (Sh.PR.take 8).getD k 0 = Sh.PR.getD k 0 := by
    rw [List.getD_eq_getElem?_getD, List.getD_eq_getElem?_getD, List.getElem?_take, if_pos hk]
  rw [← h, ← Sh.squares, List.getD_eq_getElem?_getD, List.getD_eq_getElem?_getD, List.getElem?_map, List.getElem?_eq_getElem (show k < (Sh.PR.take 8).length from hk), Option.map_some, Option.getD_some, Option.getD_some]
theorem take_snocN (l : List Nat) (k : Nat) (h : k < l.length) : l.take (k + 1) = l.take k ++ [l.getD k 0] := by
  rw [List.take_succ_eq_append_getElem h, List.getD_eq_getElem?_getD, List.getElem?_eq_getElem h]
  rfl

set_option maxRecDepth 100000 in
set_option maxHeartbeats 1000000 in
theorem Keys_by (L : List Nat) (R Q : Nat → Nat) (w : World) (HLL : Hid (L.length = 64)) (HQ : Hid (∀ (k : Nat) w, k < 64 → Calls Tryd.prog 31 #[.int .i64 k] w fun e w' => e = .returned (.int .i64 (Q k : Nat)) ∧ w = w'))
    (HRT : Hid (∀ (p : Nat) w, Calls Tryd.prog 30 #[.int .i64 (p : Nat), .bool true] w fun e w' => e = .returned (.int .i64 (R p : Nat)) ∧ Below w.heap.size w w')) (HK : Hid (∀ k, k < 64 → R (Q k) = L.getD k 0)) :
    Calls Tryd.prog 20 #[] w fun e w' => ∃ v, e = .returned v ∧ Ints w' v L ∧ Below w.heap.size w w' := by
  go_enter Tryd.func20, Tryd.ntmps20
  go_wp2
  go_loopw [1, 2] (fun v i wr => ∃ k : Nat, k ≤ 64 ∧ i = .int .i64 (k : Nat) ∧ OwnI wr w.heap.size v (L.take k) ∧ Below w.heap.size w wr) (fun _ i _ => 64 - (intOf i).toNat)
  case atStart => exact ⟨0, by omega, rfl, by rw [List.take_zero]; exact OwnI.nil _ _, Below.refl _ _⟩
  case round =>
    obtain ⟨k, hk, rfl, HO, hb⟩ := hrel
    by_cases hlt : k < 64
    · have HS := Lib.hid (take_snocN L k (by rw [HLL.out]; exact hlt))
      have HX := Lib.hid (HK.out k hlt)
      have HLT : Hid ((L.take k).length ≤ 1000000) := by rw [Hid, List.length_take]; omega
      have hzw := hb.size
      go_wp2_with fail
      refine (HQ.out k wr hlt).mono ?_
      rintro _ w1 ⟨rfl, rfl⟩
      go_wp2_with fail
      refine (HRT.out (Q k) wr).mono ?_
      rintro _ w2 ⟨rfl, hb2⟩
      rw [HX.out]
      generalize Q k = pr at *
      generalize L.getD k 0 = x at *
      have HO2 := HO.below hb2
      have b2 := hb.trans (hb2.mono hzw)
      have hz2 := b2.size
      clear HO hb2 hb HX
      go_wp2_with (at_builtin; refine wpList_appI w2 rfl (.tmp 7) (.tmp 11) rfl w.heap.size _ _ x rfl rfl HO2 HLT.out hz2 ?_)
      intro v3 w3 HO3 hb3
      go_wp2
      go_roundw
      case rel => exact ⟨k + 1, by omega, by go_num, by rw [HS.out]; exact HO3, b2.trans hb3⟩
      case measure => simp [intOf]; omega
    · obtain rfl : k = 64 := by omega
      rw [List.take_of_length_le (by rw [HLL.out]; exact Nat.le_refl _)] at HO
      have HI := HO.ints (by rw [HLL.out]; decide)
      go_wp2
      go_ret
      exact ⟨_, rfl, HI, hb⟩
theorem Keys_any (w : World) : Calls Tryd.prog 20 #[] w fun e w' => ∃ v, e = .returned v ∧ Ints w' v Sh.KK ∧ Below w.heap.size w w' :=
  Keys_by Sh.KK (fun p => Sh.root p true) (fun k => Sh.PR.getD k 0) w (Lib.hid (by decide)) (Lib.hid fun k w hk => prime_any k w hk) (Lib.hid fun p w => root_cube p w) (Lib.hid fun k hk => key_at k hk)

set_option maxRecDepth 100000 in
set_option maxHeartbeats 1000000 in
theorem refStart_by (L : List Nat) (R Q : Nat → Nat) (w : World) (HLL : Hid (L.length = 8)) (HQ : Hid (∀ (k : Nat) w, k < 64 → Calls Tryd.prog 31 #[.int .i64 k] w fun e w' => e = .returned (.int .i64 (Q k : Nat)) ∧ w = w'))
    (HRT : Hid (∀ (p : Nat) w, Calls Tryd.prog 30 #[.int .i64 (p : Nat), .bool false] w fun e w' => e = .returned (.int .i64 (R p : Nat)) ∧ Below w.heap.size w w')) (HK : Hid (∀ k, k < 8 → R (Q k) = L.getD k 0)) (HL32 : Hid (∀ x ∈ L, x < 4294967296)) :
    Calls Tryd.prog 21 #[] w fun e w' => e = .returned (.string ⟨⟨bl L⟩⟩) ∧ Below w.heap.size w w' := by
  go_enter Tryd.func21, Tryd.ntmps21
  go_wp2
  go_loopw [1, 2] (fun v i wr => ∃ k : Nat, k ≤ 8 ∧ i = .int .i64 (k : Nat) ∧ OwnI wr w.heap.size v (L.take k) ∧ Below w.heap.size w wr) (fun _ i _ => 8 - (intOf i).toNat)
  case atStart => exact ⟨0, by omega, rfl, by rw [List.take_zero]; exact OwnI.nil _ _, Below.refl _ _⟩
  case round =>
    obtain ⟨k, hk, rfl, HO, hb⟩ := hrel
    by_cases hlt : k < 8
    · have HS := Lib.hid (take_snocN L k (by rw [HLL.out]; exact hlt))
      have HX := Lib.hid (HK.out k hlt)
      have HLT : Hid ((L.take k).length ≤ 1000000) := by rw [Hid, List.length_take]; omega
      have hzw := hb.size
      go_wp2_with fail
      refine (HQ.out k wr (by omega)).mono ?_
      rintro _ w1 ⟨rfl, rfl⟩
      go_wp2_with fail
      refine (HRT.out (Q k) wr).mono ?_
      rintro _ w2 ⟨rfl, hb2⟩
      rw [HX.out]
      generalize Q k = pr at *
      generalize L.getD k 0 = x at *
      have HO2 := HO.below hb2
      have b2 := hb.trans (hb2.mono hzw)
      have hz2 := b2.size
      clear HO hb2 hb HX
      go_wp2_with (at_builtin; refine wpList_appI w2 rfl (.tmp 7) (.tmp 11) rfl w.heap.size _ _ x rfl rfl HO2 HLT.out hz2 ?_)
      intro v3 w3 HO3 hb3
      go_wp2
      go_roundw
      case rel => exact ⟨k + 1, by omega, by go_num, by rw [HS.out]; exact HO3, b2.trans hb3⟩
      case measure => simp [intOf]; omega
    · obtain rfl : k = 8 := by omega
      rw [List.take_of_length_le (by rw [HLL.out]; exact Nat.le_refl _)] at HO
      have HI := HO.ints (by rw [HLL.out]; decide)
      go_wp2_with fail
      refine (bytes_any _ L wr HI HL32 (by rw [HLL.out]; decide)).mono ?_
      rintro _ w2 ⟨rfl, hb2⟩
      have b2 := hb.trans (hb2.mono hb.size)
      clear HI hb2 HO
      go_wp2
      go_ret
      exact ⟨rfl, b2⟩
theorem refStart_any (w : World) : Calls Tryd.prog 21 #[] w fun e w' => e = .returned (.string ⟨⟨Sh.txt Sh.start⟩⟩) ∧ Below w.heap.size w w' :=
  refStart_by Sh.SQ (fun p => Sh.root p false) (fun k => Sh.PR.getD k 0) w (Lib.hid (by decide)) (Lib.hid fun k w hk => prime_any k w hk) (Lib.hid fun p w => root_square p w) (Lib.hid fun k hk => sq_at k hk) (Lib.hid Sh.SQ_lt)
end Go.Proofs.YtihgglplbanegaaDoor
