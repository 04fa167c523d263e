/- through. -/
import Derived.Test.YticofjbngfjjlaaGreatDoorGAShaW6
import Derived.StillTailTactics
import Derived.Test.YticofjbngfjjlaaGreatDoorGAShaW3
import Derived.Test.YticofjbngfjjlaaGreatDoorGAAePureC
import Derived.Deep.RegionWith
import Derived.Deep.DeepCutAuto
namespace Go.Proofs.YticofjbngfjjlaaGreatDoor
open Go.RowKit

theorem info_st (u : Sh.St) : (Tryz.prog.info? 133).map (·.size) = some (cells u.list).size := by rw [info37, cells_size]; rfl
theorem size_st (u u' : Sh.St) : (cells u.list).size = (cells u'.list).size := by rw [cells_size, cells_size]; rfl
theorem size_zero (u : Sh.St) : (cells [0, 0, 0, 0, 0, 0, 0, 0]).size = (cells u.list).size := by rw [cells_size, cells_size]; rfl
theorem thr_succ (v : Sh.St) (s : List UInt8) (k : Nat) : Sh.thr v s (k + 1) = Sh.beh (Sh.thr v s k) ((s.drop (k * 64)).take 64) := by rw [Sh.thr]

set_option maxRecDepth 100000 in
set_option maxHeartbeats 1000000 in
theorem through_any (v : Sh.St) (s : List UInt8) (w : World) (HT : Tabs w) (HV : v.Ok) (hs : s.length ≤ 1000000) :
    Calls Tryz.prog 124 #[.agg (cells v.list), .string ⟨⟨s⟩⟩] w fun e w' => e = .returned (.agg (cells (Sh.blocks v s).list)) ∧ Below w.heap.size w w' := by
  go_enter Tryz.func124, Tryz.ntmps124
  go_wp2
  go_loopw [9] (fun i wr => ∃ k : Nat, k ≤ s.length / 64 ∧ i = .int .i64 k ∧ Below w.heap.size w wr ∧ w.heap.size + 1 < wr.heap.size ∧ Hid (wr.heap[w.heap.size]? = some (.cells (cells (Sh.thr v s k).list) 133 (0, 0))) ∧ Hid (wr.heap[w.heap.size + 1]? = some (.cells (cells [0, 0, 0, 0, 0, 0, 0, 0]) 133 (0, 0)))) (fun i _ => s.length / 64 - (intOf i).toNat)
  case atStart => exact ⟨0, by omega, rfl, ((Below.refl _ _).alloc (Nat.le_refl _) _).alloc (by simp) _, by simp, heap_alloc2_old _ _ _, heap_alloc2_new _ _ _⟩
  case round =>
    obtain ⟨k, hk, rfl, hb, hz, HA, HB⟩ := hrel
    have HO := Lib.hid (Sh.thr_ok HV s k)
    have HE : Hid (Sh.thr v s (k + 1) = Sh.beh (Sh.thr v s k) ((s.drop (k * 64)).take 64)) := Lib.hid (thr_succ v s k)
    by_cases hlt : k < s.length / 64
    · generalize Sh.thr v s k = u at *
      have hz' : w.heap.size + 1 < wr.drew.heap.size := hz
      have HTR := HT.below hb
      have HTR' : Tabs wr.drew := ⟨HTR.sq, HTR.kk, HTR.size⟩
      have HA' : Hid (wr.drew.heap[w.heap.size]? = some (.cells (cells u.list) 133 (0, 0))) := HA
      have HB' : Hid (wr.drew.heap[w.heap.size + 1]? = some (.cells (cells [0, 0, 0, 0, 0, 0, 0, 0]) 133 (0, 0))) := HB
      have hb' : Below w.heap.size w wr.drew := hb.drew
      have hk64 : (k + 1) * 64 ≤ s.length := by omega
      obtain ⟨lo, hlo⟩ : ∃ lo : Nat, lo = k * 64 := ⟨_, rfl⟩
      obtain ⟨hi, hhi⟩ : ∃ hi : Nat, hi = (k + 1) * 64 := ⟨_, rfl⟩
      have e1 : IntKind.i64.wrap ((k : Int) * 64) = (lo : Int) := by rw [IntWalk.i64_in _ (by omega)]; omega
      have e2 : IntKind.i64.wrap ((k : Int) + 1) = (k : Int) + 1 := IntWalk.i64_in _ (by omega)
      have e3 : IntKind.i64.wrap (((k : Int) + 1) * 64) = (hi : Int) := by rw [IntWalk.i64_in _ (by omega)]; omega
      have f1 : lo ≤ hi := by omega
      have f2 : hi ≤ s.length := by omega
      have HCUT : Hid ((s.drop lo).take (hi - lo) = (s.drop (k * 64)).take 64) := by rw [Hid, hlo, hhi, show (k + 1) * 64 - k * 64 = 64 by omega]
      have hl64 : ((s.drop (k * 64)).take 64).length = 64 := by simp; omega
      have H64 := Lib.hid hl64
      clear hl64 hlo hhi hk64
      go_wp2_with fail
      refine wp_region_still_tail 8 (by kernel_rfl) (by kernel_rfl) ?_
      change wpStill _ _ (World.drew _) (fun a' => wpList _ _ _ _ a' (World.drew _)) _ _
      generalize wr.drew = w2 at *
      obtain ⟨q0, q1, q2, q3, q4, q5, q6, q7⟩ := eight HA'.out
      clear HA HB hb hz HTR
      simp only [List.take_succ_cons, List.take_zero, List.drop_succ_cons, List.drop_zero]
      repeat still_step
      refine wpStill_nil ?_
      go_wp2_with fail
      rw [cut_str, HCUT.out]
      change Calls Tryz.prog 154 #[.agg (cells u.list), .string ⟨⟨(s.drop (k * 64)).take 64⟩⟩] w2 _
      refine (behind_any u _ w2 HTR' HO.out H64.out).mono ?_
      rintro _ w3 ⟨rfl, hb3⟩
      rw [← HE.out]
      generalize hu' : Sh.thr v s (k + 1) = u' at *
      have HU' := Lib.hid hu'
      clear hu'
      have HA3 : Hid (w3.heap[w.heap.size]? = some (.cells (cells u.list) 133 (0, 0))) := by rw [Hid, hb3.block _ (by omega)]; exact HA'.out
      have HB3 : Hid (w3.heap[w.heap.size + 1]? = some (.cells (cells [0, 0, 0, 0, 0, 0, 0, 0]) 133 (0, 0))) := by rw [Hid, hb3.block _ (by omega)]; exact HB'.out
      have hw3 : Below w.heap.size w w3 := hb'.trans (hb3.mono (by omega))
      have hz3 : w.heap.size + 1 < w3.heap.size := by have := hb3.size; omega
      clear q0 q1 q2 q3 q4 q5 q6 q7 hb3 e1 e2 e3
      go_wp2_with (refine wpList_store_row rfl 133 (.tmp 2) (.tmp 20) rfl w.heap.size (cells u'.list) rfl rfl 133 _ HA3.out (info_st u') (size_st u u') (cells_one _) ?_)
      go_roundw
      case rel => exact ⟨k + 1, by omega, by go_num, below_setRow' hw3 (Nat.le_refl _) _, by simp; omega, by rw [Hid, HU'.out]; exact setRow_heap _ _ _ _ _ _ HA3.out, by rw [Hid, setRow_other _ _ _ _ (by omega)]; exact HB3.out⟩
      case measure => simp [intOf]; omega
    · obtain rfl : k = s.length / 64 := by omega
      have HBL : Hid (Sh.blocks v s = Sh.thr v s (s.length / 64)) := Lib.hid rfl
      clear HE HO
      generalize Sh.thr v s (s.length / 64) = u at *
      go_wp2_with (first | (refine wpList_load_row rfl 133 (.tmp 2) rfl w.heap.size rfl 133 (cells u.list) (0, 0) _ HA.out Tryz.underlying133 rfl (info_st u) ?_) | (refine wpList_store_row rfl 133 (.tmp 4) (.tmp 22) rfl (w.heap.size + 1) (cells u.list) rfl rfl 133 _ HB.out (info_st u) (size_zero u) (cells_one _) ?_))
      exact bodyPost_ret (v := .agg (cells u.list)) (results_cell_row Tryz.results124 _ _ (w.heap.size + 1) 133 _ (0, 0) _ rfl (setRow_heap _ _ _ _ _ _ HB.out) Tryz.underlying133 rfl (info_st u)) rfl ⟨by rw [HBL.out], below_setRow' hb (by omega) _⟩
end Go.Proofs.YticofjbngfjjlaaGreatDoor

/- Start, Block, Sum. -/

namespace Go.Proofs.YticofjbngfjjlaaGreatDoor
open Go.RowKit

theorem start_st (w : World) (HT : Tabs w) : Calls Tryz.prog 123 #[] w fun e w' => e = .returned (.agg (cells Sh.start.list)) ∧ Below w.heap.size w w' := start_any w HT

theorem blocks_one (v : Sh.St) (b : List UInt8) (hb : b.length = 64) : Sh.blocks v b = Sh.beh v b := by
  rw [Sh.blocks, hb, show 64 / 64 = 0 + 1 by decide, thr_succ, Sh.thr, Nat.zero_mul, List.drop_zero, List.take_of_length_le (by omega)]

end Go.Proofs.YticofjbngfjjlaaGreatDoor

/- Sum. -/

namespace Go.Proofs.YticofjbngfjjlaaGreatDoor
open Go.RowKit

theorem Tabs.drew {w : World} (h : Tabs w) : Tabs w.drew := ⟨h.sq, h.kk, h.size⟩
theorem Tabs.alloc {w : World} (h : Tabs w) (o : Obj) : Tabs (w.alloc o) := h.below ((Below.refl _ _).alloc (Nat.le_refl _) _)

theorem bcell {W w1 : World} (hb : Below W.heap.size W w1) : (∀ b o, b < W.heap.size → w1.cell? ⟨b, o, none⟩ = W.cell? ⟨b, o, none⟩) ∧ (∀ b o, b < W.heap.size → w1.frozen? ⟨b, o, none⟩ = W.frozen? ⟨b, o, none⟩) :=
  ⟨fun b o h => hb.cell (p := ⟨b, o, none⟩) h, fun b o h => hb.frozen (p := ⟨b, o, none⟩) h⟩
/-- A slot points to a new variable that holds a state. -/
def AtCell (w : World) (u : Sh.St) (s4 : Value) (wx : World) : Prop :=
  ∃ g, s4 = .pointer (some ⟨g, 0, none⟩) ∧ w.heap.size ≤ g ∧ wx.heap[g]? = some (.cells (cells u.list) 133 (0, 0)) ∧ Below w.heap.size w wx

theorem app_str (a b : List UInt8) : ByteArray.mk ⟨a⟩ ++ ByteArray.mk ⟨b⟩ = ⟨⟨a ++ b⟩⟩ := by
  apply ByteArray.ext
  rw [ByteArray.data_append]
  apply Array.toList_inj.1
  simp
/-- The eight words of a state, one by one. -/
def Eight (w : World) (g : Nat) (u : Sh.St) : Prop :=
  w.cell? ⟨g, 0, none⟩ = some (.int .u32 (u.a : Nat)) ∧ w.cell? ⟨g, 1, none⟩ = some (.int .u32 (u.b : Nat)) ∧ w.cell? ⟨g, 2, none⟩ = some (.int .u32 (u.c : Nat)) ∧ w.cell? ⟨g, 3, none⟩ = some (.int .u32 (u.d : Nat)) ∧ w.cell? ⟨g, 4, none⟩ = some (.int .u32 (u.e : Nat)) ∧ w.cell? ⟨g, 5, none⟩ = some (.int .u32 (u.f : Nat)) ∧ w.cell? ⟨g, 6, none⟩ = some (.int .u32 (u.g : Nat)) ∧ w.cell? ⟨g, 7, none⟩ = some (.int .u32 (u.h : Nat))
theorem eightB {W w : World} {g : Nat} {u : Sh.St} (hb : Below W.heap.size W w) (hz : g < W.heap.size) (h : Eight W g u) : Eight w g u := by
  obtain ⟨h0, h1, h2, h3, h4, h5, h6, h7⟩ := h
  exact ⟨(hb.cell (p := ⟨g, 0, none⟩) hz).trans h0, (hb.cell (p := ⟨g, 1, none⟩) hz).trans h1, (hb.cell (p := ⟨g, 2, none⟩) hz).trans h2, (hb.cell (p := ⟨g, 3, none⟩) hz).trans h3, (hb.cell (p := ⟨g, 4, none⟩) hz).trans h4, (hb.cell (p := ⟨g, 5, none⟩) hz).trans h5, (hb.cell (p := ⟨g, 6, none⟩) hz).trans h6, (hb.cell (p := ⟨g, 7, none⟩) hz).trans h7⟩
/-- Eight words stored one by one. -/
def sets (w : World) (g : Nat) (u : Sh.St) : World :=
  ((((((((w.setCell ⟨g, 0, none⟩ (.int .u32 (u.a : Nat))).setCell ⟨g, 1, none⟩ (.int .u32 (u.b : Nat))).setCell ⟨g, 2, none⟩ (.int .u32 (u.c : Nat))).setCell ⟨g, 3, none⟩ (.int .u32 (u.d : Nat))).setCell ⟨g, 4, none⟩ (.int .u32 (u.e : Nat))).setCell ⟨g, 5, none⟩ (.int .u32 (u.f : Nat))).setCell ⟨g, 6, none⟩ (.int .u32 (u.g : Nat))).setCell ⟨g, 7, none⟩ (.int .u32 (u.h : Nat)))
theorem set8 {w : World} {g : Nat} (u : Sh.St) (h : w.heap[g]? = some (.cells (cells [0, 0, 0, 0, 0, 0, 0, 0]) 133 (0, 0))) : (sets w g u).heap[g]? = some (.cells (cells u.list) 133 (0, 0)) := by
  have h1 := heap_setCell_same w g 0 _ 133 (.int .u32 (u.a : Nat)) h
  have h2 := heap_setCell_same _ g 1 _ 133 (.int .u32 (u.b : Nat)) h1
  have h3 := heap_setCell_same _ g 2 _ 133 (.int .u32 (u.c : Nat)) h2
  have h4 := heap_setCell_same _ g 3 _ 133 (.int .u32 (u.d : Nat)) h3
  have h5 := heap_setCell_same _ g 4 _ 133 (.int .u32 (u.e : Nat)) h4
  have h6 := heap_setCell_same _ g 5 _ 133 (.int .u32 (u.f : Nat)) h5
  have h7 := heap_setCell_same _ g 6 _ 133 (.int .u32 (u.g : Nat)) h6
  have h8 := heap_setCell_same _ g 7 _ 133 (.int .u32 (u.h : Nat)) h7
  refine h8.trans ?_
  simp [cells, Sh.St.list]
theorem undrew {B : Nat} {a b : World} (h : Below B a.drew b) : Below B a b := ⟨h.os, h.tape, h.output, h.size, h.block⟩
theorem below8 {a w : World} {B g : Nat} (h : Below B a w) (hg : B ≤ g) (u : Sh.St) : Below B a (sets w g u) :=
  (((((((h.setCell hg _).setCell hg _).setCell hg _).setCell hg _).setCell hg _).setCell hg _).setCell hg _).setCell hg _

set_option maxRecDepth 100000 in
set_option maxHeartbeats 1000000 in
theorem Sum_any (s : List UInt8) (w : World) (HT : Tabs w) (hs : s.length ≤ 100000) :
    Calls Tryz.prog 93 #[.string ⟨⟨s⟩⟩] w fun e w' => e = .returned (.string ⟨⟨Sh.sum s⟩⟩) ∧ Below w.heap.size w w' := by
  have HE := Lib.hid (Sh.sum_cut s)
  have HP := Lib.hid (Sh.pad_le s.length)
  obtain ⟨m, hm⟩ : ∃ m : Nat, m = s.length - s.length % 64 := ⟨_, rfl⟩
  have hml : m ≤ s.length := by omega
  have em : (s.length : Int) - (s.length : Int) % 64 = (m : Int) := by omega
  rw [← hm] at HE
  clear hm
  go_enter Tryz.func93, Tryz.ntmps93
  go_upto_region 2 with (fail)
  go_cut [4] (fun s4 wx => AtCell w (Sh.blocks Sh.start (s.take m)) s4 wx)
  case first =>
    go_region_with (first | (go_at_call 123; refine (start_st _ (by repeat (first | exact HT | refine Tabs.drew ?_ | refine Tabs.alloc ?_ _ | refine Tabs.below ?_ (by assumption)))).mono ?_; rintro _ w1 ⟨rfl, hb1⟩; have hz1 := hb1.size; (try simp at hz1); (try (have hy1 : w.heap.size < w1.heap.size := by omega)); obtain ⟨hc1, hf1⟩ := bcell hb1) | (go_at_call 124; (try rw [cut_str]); refine (through_any Sh.start ((s.drop 0).take (m - 0)) _ (by repeat (first | exact HT | refine Tabs.drew ?_ | refine Tabs.alloc ?_ _ | refine Tabs.below ?_ (by assumption))) Sh.start_ok (by simp; omega)).mono ?_; rintro _ w2 ⟨rfl, hb2⟩; have hz2 := hb2.size; (try simp at hz2); (try (have hy2 : w1.heap.size < w2.heap.size := by omega)); (try (have hy3 : w.heap.size < w2.heap.size := by omega)); obtain ⟨hc2, hf2⟩ := bcell hb2; generalize hU : Sh.blocks Sh.start ((s.drop 0).take (m - 0)) = u; have HU : Hid (Sh.blocks Sh.start (s.take m) = u) := (by rw [Hid, ← hU]; simp); clear hU; have hcl : cells u.list = #[.int .u32 (u.a : Nat), .int .u32 (u.b : Nat), .int .u32 (u.c : Nat), .int .u32 (u.d : Nat), .int .u32 (u.e : Nat), .int .u32 (u.f : Nat), .int .u32 (u.g : Nat), .int .u32 (u.h : Nat)] := rfl))
    · go_wp2_with fail
      go_meet
      case rel =>
        rw [HU.out]
        exact ⟨w2.heap.size, rfl, by have := hb1.size; have := hb2.size; simp at *; omega, heap_alloc_new _ _, ((undrew hb1).trans (hb2.mono (undrew hb1).size)).alloc (by have := hb1.size; have := hb2.size; simp at *; omega) _⟩
    · go_wp2_with fail
      go_meet
      case rel =>
        rw [HU.out]
        have hbx : Below w.heap.size w w1 := undrew hb1
        have hsx := hbx.size
        have hbb : Below w.heap.size w w2 := (hbx.alloc hsx _).trans (hb2.mono (by simp; omega))
        exact ⟨w1.heap.size, rfl, by omega, set8 u ((hb2.block _ (by simp)).trans (heap_alloc_new _ _)), below8 hbb (by omega) u⟩
    · go_wp2_with fail
      go_meet
      case rel =>
        rw [HU.out]
        have hbb : Below w.heap.size w w2 := ((Below.refl _ _).alloc (Nat.le_refl _) _).trans (((undrew hb1).mono (by simp)).trans (hb2.mono (by omega)))
        exact ⟨w.heap.size, rfl, by omega, set8 u ((hb2.block _ (by omega)).trans ((hb1.block _ (by simp)).trans (heap_alloc_new _ _))), below8 hbb (by omega) u⟩
  case rest =>
    have HU := Sh.blocks_ok Sh.start_ok (s.take m)
    generalize Sh.blocks Sh.start (s.take m) = u at *
    obtain ⟨g, rfl, hgl, hgc, hbc⟩ := hcut
    have Q8 := eight hgc
    obtain ⟨q0, q1, q2, q3, q4, q5, q6, q7⟩ := eight hgc
    have hgz : g < wc.heap.size := (Array.getElem?_eq_some_iff.1 hgc).1
    have HPD := Lib.hid fun W => pad_any s.length W (by omega)
    generalize Sh.pad s.length = pd at *
    have hcut : (ByteArray.mk ⟨s⟩).extract m s.length = ⟨⟨s.drop m⟩⟩ := by rw [cut_str, List.take_of_length_le (by simp)]
    have hap : ByteArray.mk ⟨s.drop m⟩ ++ ByteArray.mk ⟨pd⟩ = ⟨⟨s.drop m ++ pd⟩⟩ := app_str _ _
    have HTC := HT.below hbc
    have HZ : Hid ((s.drop m ++ pd).length ≤ 1000000) := by have := HP.out; rw [Hid]; simp; omega
    have hl1 : s.length - m + pd.length ≤ 9223372036854775807 := by have := HP.out; omega
    have hl2 : ¬ 9223372036854775807 < s.length - m + pd.length := by omega
    clear hgc
    go_wp2_with fail
    go_region_held3 (fun w' => w'.cell? ⟨g, 0, none⟩ = some (.int .u32 (u.a : Nat)) ∧ w'.cell? ⟨g, 1, none⟩ = some (.int .u32 (u.b : Nat)) ∧ w'.cell? ⟨g, 2, none⟩ = some (.int .u32 (u.c : Nat)) ∧ w'.cell? ⟨g, 3, none⟩ = some (.int .u32 (u.d : Nat)) ∧ w'.cell? ⟨g, 4, none⟩ = some (.int .u32 (u.e : Nat)) ∧ w'.cell? ⟨g, 5, none⟩ = some (.int .u32 (u.f : Nat)) ∧ w'.cell? ⟨g, 6, none⟩ = some (.int .u32 (u.g : Nat)) ∧ w'.cell? ⟨g, 7, none⟩ = some (.int .u32 (u.h : Nat))) (first | (exact K6) | (exact K5) | (exact K4) | go_keep)
      (first | (go_at_call 125; refine (HPD.out _).mono ?_; rintro _ w4 ⟨rfl, hb4⟩; have K4 := eightB hb4 hgz Q8; have hz4 : g < w4.heap.size := Nat.lt_of_lt_of_le hgz hb4.size; have T4 : Tabs w4 := Tabs.below (by first | exact HTC | exact HTC.drew) hb4) | (go_at_call 124; refine (through_any u (s.drop m ++ pd) _ (by assumption) HU HZ.out).mono ?_; rintro _ w5 ⟨rfl, hb5⟩; have K5 := eightB hb5 hz4 K4; have hz5 : g < w5.heap.size := Nat.lt_of_lt_of_le hz4 hb5.size) | (go_at_call 126; refine (text_any _ _).mono ?_; rintro _ w6 ⟨rfl, hb6⟩; have K6 := eightB hb6 hz5 K5))
    have hw4 : Below w.heap.size w w4 := hbc.trans ((undrew hb4).mono hbc.size)
    have hw5 : Below w.heap.size w w5 := hw4.trans (hb5.mono hw4.size)
    have hw6 : Below w.heap.size w w6 := hw5.trans (hb6.mono hw5.size)
    generalize htx : Sh.txt (Sh.blocks u (s.drop m ++ pd)) = tx at *
    clear htx hw4 hw5 hb4 hb5 hb6 K4 K5 K6 T4 Q8 HPD HU
    go_wp2
    go_ret
    exact ⟨by rw [HE.out]; rfl, hw6⟩
end Go.Proofs.YticofjbngfjjlaaGreatDoor

