import Derived.Test.YtmjpjbnaahdcmaaW8
import Derived.Test.YtmjpjbnaahdcmaaW10
import Derived.Test.YtmjpjbnaahdcmaaPureC
namespace Go.Proofs.Ytmjpjbnaahdcmaa
open Go.RowKit
open Wr

/-- The document's example. -/
def exI : It := .mk false 1 [104, 105] []
def exN : It := .mk true 2 [] [exI]

theorem lb_small {n : Nat} (h : n < 128) : lb n = [UInt8.ofNat n] := by
  unfold lb
  rw [if_pos h, Nat.mod_eq_of_lt h]
  rfl
theorem wr_exI : wr exI = [1, 2, 104, 105] := by
  unfold exI
  rw [wr_mk, wrs_nil, lb_small (by decide)]
  rfl
theorem wr_exN : wr exN = [130, 4, 1, 2, 104, 105] := by
  unfold exN
  rw [wr_mk, wrs_cons, wrs_nil, wr_exI, lb_small (by decide)]
  rfl
theorem sz_exI : sz exI 1 = some 4 := by
  unfold exI
  rw [sz]
  simp [dg_lt' (show 2 < 128 by omega)]
theorem sz_exN : sz exN 0 = some 6 := by
  unfold exN
  rw [sz]
  simp [szs, sz_exI, dg_lt' (show 4 < 128 by omega)]
theorem sz_zero : sz (.mk false 0 [] []) 0 = none := by
  rw [sz, if_pos (by omega)]
theorem rd_exN (rest : List UInt8) : rd 33 ([130, 4, 1, 2, 104, 105] ++ rest) 0 = .ok (exN, 6) := by
  rw [← wr_exN]
  exact rd_wr exN 33 0 6 0 rest rfl sz_exN (by omega)
theorem gt_exN : gt [130, 4, 1, 2, 104, 105] = .ok exN := by
  unfold gt
  have := rd_exN []
  rw [List.append_nil] at this
  rw [this]
  rfl
theorem bk_exN : bk exN = 4 := by
  unfold exN exI
  simp [bk, bks]

theorem app_str (a b : List UInt8) : (ByteArray.mk ⟨a⟩) ++ (ByteArray.mk ⟨b⟩) = ⟨⟨a ++ b⟩⟩ := by
  apply ByteArray.ext
  rw [ByteArray.data_append]
  apply Array.ext'
  simp

/-- The example as a value. -/
theorem rep_exN (w W : World) (hW : W.heap[w.heap.size]? = some (.cells #[.bool false, .int .i64 1, .string ⟨#[104, 105]⟩, .slice none 0 0] 24 (0, 0))) :
    Rep W (fun b => b = w.heap.size) exN (.agg #[.bool true, .int .i64 2, .string ⟨#[]⟩, .slice (some ⟨w.heap.size, 0, none⟩) 1 1]) := by
  refine rep_mk.2 ⟨some ⟨w.heap.size, 0, none⟩, 1, rfl, .inr ⟨w.heap.size, 0, rfl, rfl, ?_⟩⟩
  rw [Reps]
  refine ⟨⟨.bool false, .int .i64 1, .string ⟨#[104, 105]⟩, .slice none 0 0, ?_, ?_, ?_, ?_, ?_⟩, by rw [Reps]; trivial⟩
  · rw [cell_of_row _ _ _ _ _ _ hW]; rfl
  · rw [cell_of_row _ _ _ _ _ _ hW]; rfl
  · rw [cell_of_row _ _ _ _ _ _ hW]; rfl
  · rw [cell_of_row _ _ _ _ _ _ hW]; rfl
  · exact rep_mk.2 ⟨none, 0, rfl, .inl rfl⟩

set_option maxHeartbeats 2000000 in
set_option maxRecDepth 100000 in
theorem works_any (w : World) :
    Calls Try.prog 9 #[] w fun e w' => e = .returned (.bool true) ∧ Below w.heap.size w w' := by
  obtain ⟨W, hW⟩ : ∃ W, W = (w.alloc (.cells #[.bool false, .int .i64 1, .string ⟨#[104, 105]⟩, .slice none 0 0] 24)).alloc (.cells #[.bool true, .int .i64 2, .string ⟨#[]⟩, .slice (some ⟨w.heap.size, 0, none⟩) 1 1] 24) := ⟨_, rfl⟩
  have hWs : W.heap.size = w.heap.size + 2 := by rw [hW]; simp
  have hbW : Below w.heap.size w W := by rw [hW]; exact ((Below.refl _ _).alloc (Nat.le_refl _) _).alloc (by simp) _
  have hW0 : W.heap[w.heap.size]? = some (.cells #[.bool false, .int .i64 1, .string ⟨#[104, 105]⟩, .slice none 0 0] 24 (0, 0)) := by
    rw [hW, Below.heap_alloc _ _ _ (by simp)]; exact heap_alloc_new w _
  have hW1 : W.heap[w.heap.size + 1]? = some (.cells #[.bool true, .int .i64 2, .string ⟨#[]⟩, .slice (some ⟨w.heap.size, 0, none⟩) 1 1] 24 (0, 0)) := by
    rw [hW]
    have := heap_alloc_new (w.alloc (.cells #[.bool false, .int .i64 1, .string ⟨#[104, 105]⟩, .slice none 0 0] 24)) (.cells #[.bool true, .int .i64 2, .string ⟨#[]⟩, .slice (some ⟨w.heap.size, 0, none⟩) 1 1] 24)
    simpa using this
  have key : ∀ W', Below (w.heap.size + 2) W W' → W'.heap[w.heap.size]? = some (.cells #[.bool false, .int .i64 1, .string ⟨#[104, 105]⟩, .slice none 0 0] 24 (0, 0)) ∧ W'.heap[w.heap.size + 1]? = some (.cells #[.bool true, .int .i64 2, .string ⟨#[]⟩, .slice (some ⟨w.heap.size, 0, none⟩) 1 1] 24 (0, 0)) ∧ ∀ b, b = w.heap.size → b < W'.heap.size := by
    intro W' h
    refine ⟨by rw [h.block _ (by omega), hW0], by rw [h.block _ (by omega), hW1], fun b hb => ?_⟩
    have := h.size
    omega
  have KEY := Lib.hid key
  have HW := Lib.hid hW
  have HWS := Lib.hid hWs
  clear hW0 hW1 key hWs hW
  obtain ⟨k1, _, k3⟩ := KEY.out W (Below.refl _ _)
  have HR0 := Lib.hid (rep_exN w W k1)
  have HK3 := Lib.hid k3
  clear k1 k3
  go_enter Try.func9, Try.ntmps9
  go_wp2_with fail
  rw [← HW.out]
  refine (put_ok exN _ _ _ 6 (by rw [bk_exN]; omega) HR0.out HK3.out sz_exN).mono ?_
  rintro _ w1 ⟨rfl, hb1⟩
  rw [wr_exN]
  have HB1 : Hid (Below (w.heap.size + 2) W w1) := hb1.mono (by have := HWS.out; omega)
  clear hb1
  go_wp2_with fail
  refine (get_ok [130, 4, 1, 2, 104, 105] _ exN (by simp) gt_exN).mono ?_
  rintro _ w2 ⟨v0, v1, v2, v3, rfl, hrep2, hb2⟩
  have hs1 : w.heap.size + 2 ≤ w1.heap.size := by have := HB1.out.size; have := HWS.out; omega
  have HB2 : Hid (Below (w.heap.size + 2) W w2) := HB1.out.trans (hb2.mono hs1)
  obtain ⟨A', cap', hv, hrow'⟩ := rep_mk.1 hrep2
  injection hv with hv
  simp at hv
  obtain ⟨rfl, rfl, rfl, rfl⟩ := hv
  have hs2 : w.heap.size + 2 ≤ w2.heap.size := by have := hb2.size; omega
  obtain ⟨Y, hY⟩ : ∃ Y, Y = Obj.cells #[.bool true, .int .i64 2, .string ⟨⟨[]⟩⟩, .slice A' 1 cap'] 24 := ⟨_, rfl⟩
  have HB3 : Hid (Below (w.heap.size + 2) W (w2.alloc Y)) := HB2.out.alloc hs2 _
  obtain ⟨k1, k2, k3⟩ := KEY.out _ HB3.out
  have HRX := Lib.hid (rep_exN w (w2.alloc Y) k1)
  have HRY : Hid (Rep (w2.alloc Y) (New w1.heap.size w2) exN (.agg #[.bool true, .int .i64 2, .string ⟨⟨[]⟩⟩, .slice A' 1 cap'])) := rep_alloc hrep2 _ (fun c hc => ⟨hc.2, hc⟩)
  have HSX := Lib.hid k3
  have HSY : Hid (∀ c, New w1.heap.size w2 c → c < (w2.alloc Y).heap.size) := fun c hc => by have := hc.2; simp; omega
  subst hY
  obtain ⟨j1, j2, j3⟩ := KEY.out _ HB2.out
  have q0 : w2.cell? ⟨w.heap.size + 1, 0, none⟩ = some (.bool true) := by rw [cell_of_row _ _ _ _ _ _ j2]; rfl
  have q1 : w2.cell? ⟨w.heap.size + 1, 1, none⟩ = some (.int .i64 2) := by rw [cell_of_row _ _ _ _ _ _ j2]; rfl
  have q2 : w2.cell? ⟨w.heap.size + 1, 2, none⟩ = some (.string ⟨#[]⟩) := by rw [cell_of_row _ _ _ _ _ _ j2]; rfl
  have q3 : w2.cell? ⟨w.heap.size + 1, 3, none⟩ = some (.slice (some ⟨w.heap.size, 0, none⟩) 1 1) := by rw [cell_of_row _ _ _ _ _ _ j2]; rfl
  have hlt2 : w.heap.size + 1 < w2.heap.size := by omega
  clear hb2 hrow' hrep2 k1 k2 k3 j1 j2 j3
  go_wp2_with fail
  refine (Same_any exN exN _ _ _ _ _ (by rw [bk_exN]; omega) HRX.out HRY.out HSX.out HSY.out).mono ?_
  rintro _ w3 ⟨rfl, hb3⟩
  rw [eqB_true.2 rfl]
  have HB4 : Hid (Below (w.heap.size + 2) W w3) := HB3.out.trans (hb3.mono (by simp; omega))
  have hs3 : w.heap.size + 2 ≤ w3.heap.size := by have := hb3.size; simp at this; omega
  clear hb3
  go_wp2_with fail
  rw [show (ByteArray.mk ⟨[130, 4, 1, 2, 104, 105]⟩ ++ ByteArray.mk #[122]) = ⟨⟨[130, 4, 1, 2, 104, 105] ++ [122]⟩⟩ from app_str _ _]
  refine (first_ok ([130, 4, 1, 2, 104, 105] ++ [122]) _ exN 6 (by simp) (rd_exN [122])).mono ?_
  rintro _ w4 ⟨v0, v1, v2, v3, rfl, hrep4, hb4⟩
  obtain ⟨A5, cap5, hv, hrow5⟩ := rep_mk.1 hrep4
  injection hv with hv
  simp at hv
  obtain ⟨rfl, rfl, rfl, rfl⟩ := hv
  have HB5 : Hid (Below (w.heap.size + 2) W w4) := HB4.out.trans (hb4.mono hs3)
  have hs4 : w.heap.size + 2 ≤ w4.heap.size := by have := hb4.size; omega
  obtain ⟨Y, hY⟩ : ∃ Y, Y = Obj.cells #[.bool true, .int .i64 2, .string ⟨⟨[]⟩⟩, .slice A5 1 cap5] 24 := ⟨_, rfl⟩
  have HB6 : Hid (Below (w.heap.size + 2) W (w4.alloc Y)) := HB5.out.alloc hs4 _
  obtain ⟨k1, k2, k3⟩ := KEY.out _ HB6.out
  have HRX6 := Lib.hid (rep_exN w (w4.alloc Y) k1)
  have HSX6 := Lib.hid k3
  subst hY
  obtain ⟨j1, j2, j3⟩ := KEY.out _ HB5.out
  have q0 : w4.cell? ⟨w.heap.size + 1, 0, none⟩ = some (.bool true) := by rw [cell_of_row _ _ _ _ _ _ j2]; rfl
  have q1 : w4.cell? ⟨w.heap.size + 1, 1, none⟩ = some (.int .i64 2) := by rw [cell_of_row _ _ _ _ _ _ j2]; rfl
  have q2 : w4.cell? ⟨w.heap.size + 1, 2, none⟩ = some (.string ⟨#[]⟩) := by rw [cell_of_row _ _ _ _ _ _ j2]; rfl
  have q3 : w4.cell? ⟨w.heap.size + 1, 3, none⟩ = some (.slice (some ⟨w.heap.size, 0, none⟩) 1 1) := by rw [cell_of_row _ _ _ _ _ _ j2]; rfl
  have hlt4 : w.heap.size + 1 < w4.heap.size := by omega
  clear hb4 hrow5 hrep4 k1 k2 k3 j1 j2 j3
  go_wp2_with fail
  refine (valid_any exN _ _ _ (by rw [bk_exN]; omega) HRX6.out HSX6.out).mono ?_
  rintro _ w5 ⟨rfl, hb5⟩
  rw [sz_exN]
  simp only [Option.isSome_some]
  have HB7 : Hid (Below w.heap.size w w5) := hbW.trans ((HB6.out.trans (hb5.mono (by simp; omega))).mono (by omega))
  clear hb5
  go_wp2_with fail
  refine (valid_any (.mk false 0 [] []) (fun _ => False) _ _ (by simp [bk, bks]) (rep_mk.2 ⟨none, 0, rfl, .inl rfl⟩) (fun _ h => h.elim)).mono ?_
  rintro _ w6 ⟨rfl, hb6⟩
  rw [sz_zero]
  simp only [Option.isSome_none]
  have HB8 : Hid (Below w.heap.size w w6) := HB7.out.trans (hb6.mono HB7.out.size)
  clear hb6
  go_wp2
  go_ret
  exact ⟨rfl, HB8.out⟩
end Go.Proofs.Ytmjpjbnaahdcmaa
