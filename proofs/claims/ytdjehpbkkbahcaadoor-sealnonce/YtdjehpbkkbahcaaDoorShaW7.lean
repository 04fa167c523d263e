/- through. -/
import Derived.Test.YtdjehpbkkbahcaaDoorShaW6
import Derived.StillTailTactics
namespace Go.Proofs.YtdjehpbkkbahcaaDoor
open Go.RowKit

theorem info_st (u : Sh.St) : (Tryd.prog.info? 64).map (·.size) = some (cells u.list).size := by rw [info37, cells_size]; rfl
theorem size_st (u u' : Sh.St) : (cells u.list).size = (cells u'.list).size := by rw [cells_size, cells_size]; rfl
theorem size_zero (u : Sh.St) : (cells [0, 0, 0, 0, 0, 0, 0, 0]).size = (cells u.list).size := by rw [cells_size, cells_size]; rfl
theorem thr_succ (v : Sh.St) (s : List UInt8) (k : Nat) : Sh.thr v s (k + 1) = Sh.beh (Sh.thr v s k) ((s.drop (k * 64)).take 64) := by rw [Sh.thr]

set_option maxRecDepth 100000 in
set_option maxHeartbeats 1000000 in
theorem through_any (v : Sh.St) (s : List UInt8) (w : World) (HT : Tabs w) (HV : v.Ok) (hs : s.length ≤ 1000000) :
    Calls Tryd.prog 49 #[.agg (cells v.list), .string ⟨⟨s⟩⟩] w fun e w' => e = .returned (.agg (cells (Sh.blocks v s).list)) ∧ Below w.heap.size w w' := by
  go_enter Tryd.func49, Tryd.ntmps49
  go_wp2
  go_loopw [9] (fun i wr => ∃ k : Nat, k ≤ s.length / 64 ∧ i = .int .i64 k ∧ Below w.heap.size w wr ∧ w.heap.size + 1 < wr.heap.size ∧ Hid (wr.heap[w.heap.size]? = some (.cells (cells (Sh.thr v s k).list) 64 (0, 0))) ∧ Hid (wr.heap[w.heap.size + 1]? = some (.cells (cells [0, 0, 0, 0, 0, 0, 0, 0]) 64 (0, 0)))) (fun i _ => s.length / 64 - (intOf i).toNat)
  case atStart => exact ⟨0, by omega, rfl, ((Below.refl _ _).alloc (Nat.le_refl _) _).alloc (by simp) _, by simp, heap_alloc2_old _ _ _, heap_alloc2_new _ _ _⟩
  case round =>
    obtain ⟨k, hk, rfl, hb, hz, HA, HB⟩ := hrel
    have HO := Lib.hid (Sh.thr_ok HV s k)
    have HE : Hid (Sh.thr v s (k + 1) = Sh.beh (Sh.thr v s k) ((s.drop (k * 64)).take 64)) := Lib.hid (thr_succ v s k)
    by_cases hlt : k < s.length / 64
    · generalize Sh.thr v s k = u at *
      have hz' : w.heap.size + 1 < wr.drew.heap.size := hz
      have HTR := HT.below hb
      have HTR' : Tabs wr.drew := ⟨HTR.sq, HTR.kk, HTR.size⟩
      have HA' : Hid (wr.drew.heap[w.heap.size]? = some (.cells (cells u.list) 64 (0, 0))) := HA
      have HB' : Hid (wr.drew.heap[w.heap.size + 1]? = some (.cells (cells [0, 0, 0, 0, 0, 0, 0, 0]) 64 (0, 0))) := HB
      have hb' : Below w.heap.size w wr.drew := hb.drew
      have hk64 : (k + 1) * 64 ≤ s.length := by omega
      obtain ⟨lo, hlo⟩ : ∃ lo : Nat, lo = k * 64 := ⟨_, rfl⟩
      obtain ⟨hi, hhi⟩ : ∃ hi : Nat, hi = (k + 1) * 64 := ⟨_, rfl⟩
      have e1 : IntKind.i64.wrap ((k : Int) * 64) = (lo : Int) := by rw [IntWalk.i64_in _ (by omega)]; omega
      have e2 : IntKind.i64.wrap ((k : Int) + 1) = (k : Int) + 1 := IntWalk.i64_in _ (by omega)
      have e3 : IntKind.i64.wrap (((k : Int) + 1) * 64) = (hi : Int) := by rw [IntWalk.i64_in _ (by omega)]; omega
      have f1 : lo ≤ hi := by omega
      have f2 : hi ≤ s.length := by omega
      have HCUT : Hid ((s.drop lo).take (hi - lo) = (s.drop (k * 64)).take 64) := by rw [Hid, hlo, hhi, show (k + 1) * 64 - k * 64 = 64 by omega]
      have hl64 : ((s.drop (k * 64)).take 64).length = 64 := by simp; omega
      have H64 := Lib.hid hl64
      clear hl64 hlo hhi hk64
      go_wp2_with fail
      refine wp_region_still_tail 8 (by kernel_rfl) (by kernel_rfl) ?_
      change wpStill _ _ (World.drew _) (fun a' => wpList _ _ _ _ a' (World.drew _)) _ _
      generalize wr.drew = w2 at *
      obtain ⟨q0, q1, q2, q3, q4, q5, q6, q7⟩ := eight HA'.out
      clear HA HB hb hz HTR
      simp only [List.take_succ_cons, List.take_zero, List.drop_succ_cons, List.drop_zero]
      repeat still_step
      refine wpStill_nil ?_
      go_wp2_with fail
      rw [cut_str, HCUT.out]
      change Calls Tryd.prog 60 #[.agg (cells u.list), .string ⟨⟨(s.drop (k * 64)).take 64⟩⟩] w2 _
      refine (behind_any u _ w2 HTR' HO.out H64.out).mono ?_
      rintro _ w3 ⟨rfl, hb3⟩
      rw [← HE.out]
      generalize hu' : Sh.thr v s (k + 1) = u' at *
      have HU' := Lib.hid hu'
      clear hu'
      have HA3 : Hid (w3.heap[w.heap.size]? = some (.cells (cells u.list) 64 (0, 0))) := by rw [Hid, hb3.block _ (by omega)]; exact HA'.out
      have HB3 : Hid (w3.heap[w.heap.size + 1]? = some (.cells (cells [0, 0, 0, 0, 0, 0, 0, 0]) 64 (0, 0))) := by rw [Hid, hb3.block _ (by omega)]; exact HB'.out
      have hw3 : Below w.heap.size w w3 := hb'.trans (hb3.mono (by omega))
      have hz3 : w.heap.size + 1 < w3.heap.size := by have := hb3.size; omega
      clear q0 q1 q2 q3 q4 q5 q6 q7 hb3 e1 e2 e3
      go_wp2_with (refine wpList_store_row rfl 64 (.tmp 2) (.tmp 20) rfl w.heap.size (cells u'.list) rfl rfl 64 _ HA3.out (info_st u') (size_st u u') (cells_one _) ?_)
      go_roundw
      case rel => exact ⟨k + 1, by omega, by go_num, below_setRow' hw3 (Nat.le_refl _) _, by simp; omega, by rw [Hid, HU'.out]; exact setRow_heap _ _ _ _ _ _ HA3.out, by rw [Hid, setRow_other _ _ _ _ (by omega)]; exact HB3.out⟩
      case measure => simp [intOf]; omega
    · obtain rfl : k = s.length / 64 := by omega
      have HBL : Hid (Sh.blocks v s = Sh.thr v s (s.length / 64)) := Lib.hid rfl
      clear HE HO
      generalize Sh.thr v s (s.length / 64) = u at *
      go_wp2_with (first | (refine wpList_load_row rfl 64 (.tmp 2) rfl w.heap.size rfl 64 (cells u.list) (0, 0) _ HA.out Tryd.underlying64 rfl (info_st u) ?_) | (refine wpList_store_row rfl 64 (.tmp 4) (.tmp 22) rfl (w.heap.size + 1) (cells u.list) rfl rfl 64 _ HB.out (info_st u) (size_zero u) (cells_one _) ?_))
      exact bodyPost_ret (v := .agg (cells u.list)) (results_cell_row Tryd.results49 _ _ (w.heap.size + 1) 64 _ (0, 0) _ rfl (setRow_heap _ _ _ _ _ _ HB.out) Tryd.underlying64 rfl (info_st u)) rfl ⟨by rw [HBL.out], below_setRow' hb (by omega) _⟩
end Go.Proofs.YtdjehpbkkbahcaaDoor
