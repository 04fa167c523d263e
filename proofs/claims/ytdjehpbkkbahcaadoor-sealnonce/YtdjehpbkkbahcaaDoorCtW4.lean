/- Cipher. -/
import Derived.Test.YtdjehpbkkbahcaaDoorCtW3
import Derived.Test.YtdjehpbkkbahcaaDoorAeL3
import Derived.StillTailTactics
namespace Go.Proofs.YtdjehpbkkbahcaaDoor
open Go.RowKit

theorem cipA_at (k o s : List UInt8) (j : Nat) (hs : j < s.length) (ht : j < (Ct.strA k o (s.length : Int)).length) : (Ct.cipA k o s).getD j 0 = s[j] ^^^ (Ct.strA k o (s.length : Int))[j] := by
  rw [Ct.cipA, Ct.xr_getD _ _ _ hs ht, getD_get _ _ hs, getD_get _ _ ht]

set_option maxRecDepth 100000 in
theorem Cipher_any (k o s : List UInt8) (w : World) :
    Calls Tryd.prog 38 #[.string ⟨⟨k⟩⟩, .string ⟨⟨o⟩⟩, .string ⟨⟨s⟩⟩] w fun e w' => e = .returned (.string ⟨⟨Ct.cipA k o s⟩⟩) ∧ Below w.heap.size w w' := by
  have HS := Lib.hid fun W => Stream_any k o (s.length : Int) W
  have HAT := Lib.hid (cipA_at k o s)
  have HL := Lib.hid (Ct.cipA_length k o s)
  have hle := Ct.strA_le k o (s.length : Int)
  have hts : (Ct.strA k o (s.length : Int)).length ≤ s.length := by
    rcases Ct.strA_len k o s.length with h | h
    · omega
    · rw [h]; exact Nat.zero_le _
  have HLE := Lib.hid hle
  have HTS := Lib.hid hts
  clear hle hts
  generalize Ct.strA k o (s.length : Int) = t at *
  generalize Ct.cipA k o s = L at *
  go_enter Tryd.func38, Tryd.ntmps38
  go_wp2_with fail
  refine (HS.out w).mono ?_
  rintro _ w1 ⟨rfl, hb1⟩
  have hmk := make_full t.length (by have := HLE.out; omega) w1
  have hs1 := hb1.size
  obtain ⟨gs, hgs⟩ : ∃ g, g = w1.heap.size := ⟨_, rfl⟩
  have hgw : w.heap.size ≤ gs := by omega
  have HST : Hid (Below w.heap.size w (w1.alloc (.cells (bcells (List.replicate t.length 0)) 5)) ∧ (w1.alloc (.cells (bcells (List.replicate t.length 0)) 5)).heap[gs]? = some (.cells (bcells (L.take 0 ++ List.replicate (t.length - 0) 0)) 5 (0, 0))) :=
    ⟨hb1.alloc hs1 _, by rw [hgs]; exact heap_alloc_new _ _⟩
  have HGS := Lib.hid hgs
  clear hgs hb1 hs1 HS
  go_wp2
  rw [← HGS.out]
  clear HGS hmk
  go_loopw [20] (fun i wr => ∃ p : Nat, p ≤ t.length ∧ i = .int .i64 (p : Nat) ∧ Hid (Below w.heap.size w wr ∧ wr.heap[gs]? = some (.cells (bcells (L.take p ++ List.replicate (t.length - p) 0)) 5 (0, 0)))) (fun i _ => t.length - (intOf i).toNat)
  case atStart => exact ⟨0, by omega, rfl, HST⟩
  case round =>
    obtain ⟨p, hp, rfl, HA⟩ := hrel
    clear HST
    by_cases hlt : p < t.length
    · have hps : p < s.length := by have := HTS.out; omega
      have g0 := byte_at s p hps
      have g1 := byte_at t p hlt
      obtain ⟨x, hx⟩ : ∃ x, s[p] = x := ⟨_, rfl⟩
      obtain ⟨y, hy⟩ : ∃ y, t[p] = y := ⟨_, rfl⟩
      rw [hx] at g0
      rw [hy] at g1
      obtain ⟨hbw, hrow⟩ := HA.out
      have hval : L.getD p 0 = x ^^^ y := by rw [HAT.out p hps hlt, hx, hy]
      have hcz : wr.drew.cell? ⟨gs, p, none⟩ = some (.int .u8 (0 : Nat)) := brow_cell (wr := wr) hrow HL.out hlt
      have hfz : wr.drew.frozen? ⟨gs, p, none⟩ = false := frozen_of_row wr _ p _ _ hrow
      have HN : Hid (Below w.heap.size w (wr.drew.setCell ⟨gs, p, none⟩ (.int .u8 ((x ^^^ y).toNat : Nat))) ∧ (wr.drew.setCell ⟨gs, p, none⟩ (.int .u8 ((x ^^^ y).toNat : Nat))).heap[gs]? = some (.cells (bcells (L.take (p + 1) ++ List.replicate (t.length - (p + 1)) 0)) 5 (0, 0))) := by
        refine ⟨hbw.drew.setCell hgw _, ?_⟩
        rw [← hval]
        exact brow_set (wr := wr.drew) hrow HL.out hlt
      have hv := xor_byte x y
      have z0 : (p : Int) < t.length := by omega
      have z1 : (p : Int) < s.length := by omega
      have z2 : (p : Int) < 1048576 := by have := HLE.out; omega
      clear hx hy hval hbw hrow HA
      go_wp2_with fail
      refine wp_region_still_tail 10 (by kernel_rfl) (by kernel_rfl) ?_
      change wpStill _ _ (World.drew _) (fun a' => wpList _ _ _ _ a' (World.drew _)) _ _
      generalize wr.drew = w9 at *
      simp only [List.take_succ_cons, List.take_zero, List.drop_succ_cons, List.drop_zero]
      repeat still_step
      refine wpStill_nil ?_
      go_wp2
      go_roundw
      case rel => exact ⟨p + 1, by omega, by go_num, HN⟩
      case measure => simp [intOf]; omega
    · obtain rfl : p = t.length := by omega
      obtain ⟨hbw, hrow⟩ := HA.out
      rw [List.take_of_length_le (by rw [HL.out]; omega), Nat.sub_self, List.replicate_zero, List.append_nil] at hrow
      have hcv := conv_any wr gs t.length L 5 (0, 0) _ hrow (fun j hj => bcells_at L j hj)
      rw [HL.out] at hcv
      clear hrow HA
      go_wp2
      go_ret
      exact ⟨rfl, hbw⟩
end Go.Proofs.YtdjehpbkkbahcaaDoor
