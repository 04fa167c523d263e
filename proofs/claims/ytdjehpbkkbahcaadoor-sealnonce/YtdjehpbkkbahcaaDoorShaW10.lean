/- Sum. -/
import Derived.Test.YtdjehpbkkbahcaaDoorShaW9
import Derived.Test.YtdjehpbkkbahcaaDoorShaPureC
import Derived.Deep.RegionWith
import Derived.Deep.DeepCutAuto
namespace Go.Proofs.YtdjehpbkkbahcaaDoor
open Go.RowKit

theorem Tabs.drew {w : World} (h : Tabs w) : Tabs w.drew := ⟨h.sq, h.kk, h.size⟩
theorem Tabs.alloc {w : World} (h : Tabs w) (o : Obj) : Tabs (w.alloc o) := h.below ((Below.refl _ _).alloc (Nat.le_refl _) _)

theorem bcell {W w1 : World} (hb : Below W.heap.size W w1) : (∀ b o, b < W.heap.size → w1.cell? ⟨b, o, none⟩ = W.cell? ⟨b, o, none⟩) ∧ (∀ b o, b < W.heap.size → w1.frozen? ⟨b, o, none⟩ = W.frozen? ⟨b, o, none⟩) :=
  ⟨fun b o h => hb.cell (p := ⟨b, o, none⟩) h, fun b o h => hb.frozen (p := ⟨b, o, none⟩) h⟩
/-- A slot points to a new variable that holds a state. -/
def AtCell (w : World) (u : Sh.St) (s4 : Value) (wx : World) : Prop :=
  ∃ g, s4 = .pointer (some ⟨g, 0, none⟩) ∧ w.heap.size ≤ g ∧ wx.heap[g]? = some (.cells (cells u.list) 64 (0, 0)) ∧ Below w.heap.size w wx

theorem app_str (a b : List UInt8) : ByteArray.mk ⟨a⟩ ++ ByteArray.mk ⟨b⟩ = ⟨⟨a ++ b⟩⟩ := by
  apply ByteArray.ext
  rw [ByteArray.data_append]
  apply Array.toList_inj.1
  simp
/-- The eight words of a state, one by one. -/
def Eight (w : World) (g : Nat) (u : Sh.St) : Prop :=
  w.cell? ⟨g, 0, none⟩ = some (.int .u32 (u.a : Nat)) ∧ w.cell? ⟨g, 1, none⟩ = some (.int .u32 (u.b : Nat)) ∧ w.cell? ⟨g, 2, none⟩ = some (.int .u32 (u.c : Nat)) ∧ w.cell? ⟨g, 3, none⟩ = some (.int .u32 (u.d : Nat)) ∧ w.cell? ⟨g, 4, none⟩ = some (.int .u32 (u.e : Nat)) ∧ w.cell? ⟨g, 5, none⟩ = some (.int .u32 (u.f : Nat)) ∧ w.cell? ⟨g, 6, none⟩ = some (.int .u32 (u.g : Nat)) ∧ w.cell? ⟨g, 7, none⟩ = some (.int .u32 (u.h : Nat))
theorem eightB {W w : World} {g : Nat} {u : Sh.St} (hb : Below W.heap.size W w) (hz : g < W.heap.size) (h : Eight W g u) : Eight w g u := by
  obtain ⟨h0, h1, h2, h3, h4, h5, h6, h7⟩ := h
  exact ⟨(hb.cell (p := ⟨g, 0, none⟩) hz).trans h0, (hb.cell (p := ⟨g, 1, none⟩) hz).trans h1, (hb.cell (p := ⟨g, 2, none⟩) hz).trans h2, (hb.cell (p := ⟨g, 3, none⟩) hz).trans h3, (hb.cell (p := ⟨g, 4, none⟩) hz).trans h4, (hb.cell (p := ⟨g, 5, none⟩) hz).trans h5, (hb.cell (p := ⟨g, 6, none⟩) hz).trans h6, (hb.cell (p := ⟨g, 7, none⟩) hz).trans h7⟩
/-- Eight words stored one by one. -/
def sets (w : World) (g : Nat) (u : Sh.St) : World :=
  ((((((((w.setCell ⟨g, 0, none⟩ (.int .u32 (u.a : Nat))).setCell ⟨g, 1, none⟩ (.int .u32 (u.b : Nat))).setCell ⟨g, 2, none⟩ (.int .u32 (u.c : Nat))).setCell ⟨g, 3, none⟩ (.int .u32 (u.d : Nat))).setCell ⟨g, 4, none⟩ (.int .u32 (u.e : Nat))).setCell ⟨g, 5, none⟩ (.int .u32 (u.f : Nat))).setCell ⟨g, 6, none⟩ (.int .u32 (u.g : Nat))).setCell ⟨g, 7, none⟩ (.int .u32 (u.h : Nat)))
theorem set8 {w : World} {g : Nat} (u : Sh.St) (h : w.heap[g]? = some (.cells (cells [0, 0, 0, 0, 0, 0, 0, 0]) 64 (0, 0))) : (sets w g u).heap[g]? = some (.cells (cells u.list) 64 (0, 0)) := by
  have h1 := heap_setCell_same w g 0 _ 64 (.int .u32 (u.a : Nat)) h
  have h2 := heap_setCell_same _ g 1 _ 64 (.int .u32 (u.b : Nat)) h1
  have h3 := heap_setCell_same _ g 2 _ 64 (.int .u32 (u.c : Nat)) h2
  have h4 := heap_setCell_same _ g 3 _ 64 (.int .u32 (u.d : Nat)) h3
  have h5 := heap_setCell_same _ g 4 _ 64 (.int .u32 (u.e : Nat)) h4
  have h6 := heap_setCell_same _ g 5 _ 64 (.int .u32 (u.f : Nat)) h5
  have h7 := heap_setCell_same _ g 6 _ 64 (.int .u32 (u.g : Nat)) h6
  have h8 := heap_setCell_same _ g 7 _ 64 (.int .u32 (u.h : Nat)) h7
  refine h8.trans ?_
  simp [cells, Sh.St.list]
theorem undrew {B : Nat} {a b : World} (h : Below B a.drew b) : Below B a b := ⟨h.os, h.tape, h.output, h.size, h.block⟩
theorem below8 {a w : World} {B g : Nat} (h : Below B a w) (hg : B ≤ g) (u : Sh.St) : Below B a (sets w g u) :=
  (((((((h.setCell hg _).setCell hg _).setCell hg _).setCell hg _).setCell hg _).setCell hg _).setCell hg _).setCell hg _

set_option maxRecDepth 100000 in
set_option maxHeartbeats 1000000 in
theorem Sum_any (s : List UInt8) (w : World) (HT : Tabs w) (hs : s.length ≤ 100000) :
    Calls Tryd.prog 32 #[.string ⟨⟨s⟩⟩] w fun e w' => e = .returned (.string ⟨⟨Sh.sum s⟩⟩) ∧ Below w.heap.size w w' := by
  have HE := Lib.hid (Sh.sum_cut s)
  have HP := Lib.hid (Sh.pad_le s.length)
  obtain ⟨m, hm⟩ : ∃ m : Nat, m = s.length - s.length % 64 := ⟨_, rfl⟩
  have hml : m ≤ s.length := by omega
  have em : (s.length : Int) - (s.length : Int) % 64 = (m : Int) := by omega
  rw [← hm] at HE
  clear hm
  go_enter Tryd.func32, Tryd.ntmps32
  go_upto_region 2 with (fail)
  go_cut [4] (fun s4 wx => AtCell w (Sh.blocks Sh.start (s.take m)) s4 wx)
  case first =>
    go_region_with (first | (go_at_call 48; refine (start_st _ (by repeat (first | exact HT | refine Tabs.drew ?_ | refine Tabs.alloc ?_ _ | refine Tabs.below ?_ (by assumption)))).mono ?_; rintro _ w1 ⟨rfl, hb1⟩; have hz1 := hb1.size; (try simp at hz1); (try (have hy1 : w.heap.size < w1.heap.size := by omega)); obtain ⟨hc1, hf1⟩ := bcell hb1) | (go_at_call 49; (try rw [cut_str]); refine (through_any Sh.start ((s.drop 0).take (m - 0)) _ (by repeat (first | exact HT | refine Tabs.drew ?_ | refine Tabs.alloc ?_ _ | refine Tabs.below ?_ (by assumption))) Sh.start_ok (by simp; omega)).mono ?_; rintro _ w2 ⟨rfl, hb2⟩; have hz2 := hb2.size; (try simp at hz2); (try (have hy2 : w1.heap.size < w2.heap.size := by omega)); (try (have hy3 : w.heap.size < w2.heap.size := by omega)); obtain ⟨hc2, hf2⟩ := bcell hb2; generalize hU : Sh.blocks Sh.start ((s.drop 0).take (m - 0)) = u; have HU : Hid (Sh.blocks Sh.start (s.take m) = u) := (by rw [Hid, ← hU]; simp); clear hU; have hcl : cells u.list = #[.int .u32 (u.a : Nat), .int .u32 (u.b : Nat), .int .u32 (u.c : Nat), .int .u32 (u.d : Nat), .int .u32 (u.e : Nat), .int .u32 (u.f : Nat), .int .u32 (u.g : Nat), .int .u32 (u.h : Nat)] := rfl))
    · go_wp2_with fail
      go_meet
      case rel =>
        rw [HU.out]
        exact ⟨w2.heap.size, rfl, by have := hb1.size; have := hb2.size; simp at *; omega, heap_alloc_new _ _, ((undrew hb1).trans (hb2.mono (undrew hb1).size)).alloc (by have := hb1.size; have := hb2.size; simp at *; omega) _⟩
    · go_wp2_with fail
      go_meet
      case rel =>
        rw [HU.out]
        have hbx : Below w.heap.size w w1 := undrew hb1
        have hsx := hbx.size
        have hbb : Below w.heap.size w w2 := (hbx.alloc hsx _).trans (hb2.mono (by simp; omega))
        exact ⟨w1.heap.size, rfl, by omega, set8 u ((hb2.block _ (by simp)).trans (heap_alloc_new _ _)), below8 hbb (by omega) u⟩
    · go_wp2_with fail
      go_meet
      case rel =>
        rw [HU.out]
        have hbb : Below w.heap.size w w2 := ((Below.refl _ _).alloc (Nat.le_refl _) _).trans (((undrew hb1).mono (by simp)).trans (hb2.mono (by omega)))
        exact ⟨w.heap.size, rfl, by omega, set8 u ((hb2.block _ (by omega)).trans ((hb1.block _ (by simp)).trans (heap_alloc_new _ _))), below8 hbb (by omega) u⟩
  case rest =>
    have HU := Sh.blocks_ok Sh.start_ok (s.take m)
    generalize Sh.blocks Sh.start (s.take m) = u at *
    obtain ⟨g, rfl, hgl, hgc, hbc⟩ := hcut
    have Q8 := eight hgc
    obtain ⟨q0, q1, q2, q3, q4, q5, q6, q7⟩ := eight hgc
    have hgz : g < wc.heap.size := (Array.getElem?_eq_some_iff.1 hgc).1
    have HPD := Lib.hid fun W => pad_any s.length W (by omega)
    generalize Sh.pad s.length = pd at *
    have hcut : (ByteArray.mk ⟨s⟩).extract m s.length = ⟨⟨s.drop m⟩⟩ := by rw [cut_str, List.take_of_length_le (by simp)]
    have hap : ByteArray.mk ⟨s.drop m⟩ ++ ByteArray.mk ⟨pd⟩ = ⟨⟨s.drop m ++ pd⟩⟩ := app_str _ _
    have HTC := HT.below hbc
    have HZ : Hid ((s.drop m ++ pd).length ≤ 1000000) := by have := HP.out; rw [Hid]; simp; omega
    have hl1 : s.length - m + pd.length ≤ 9223372036854775807 := by have := HP.out; omega
    have hl2 : ¬ 9223372036854775807 < s.length - m + pd.length := by omega
    clear hgc
    go_wp2_with fail
    go_region_held3 (fun w' => w'.cell? ⟨g, 0, none⟩ = some (.int .u32 (u.a : Nat)) ∧ w'.cell? ⟨g, 1, none⟩ = some (.int .u32 (u.b : Nat)) ∧ w'.cell? ⟨g, 2, none⟩ = some (.int .u32 (u.c : Nat)) ∧ w'.cell? ⟨g, 3, none⟩ = some (.int .u32 (u.d : Nat)) ∧ w'.cell? ⟨g, 4, none⟩ = some (.int .u32 (u.e : Nat)) ∧ w'.cell? ⟨g, 5, none⟩ = some (.int .u32 (u.f : Nat)) ∧ w'.cell? ⟨g, 6, none⟩ = some (.int .u32 (u.g : Nat)) ∧ w'.cell? ⟨g, 7, none⟩ = some (.int .u32 (u.h : Nat))) (first | (exact K6) | (exact K5) | (exact K4) | go_keep)
      (first | (go_at_call 50; refine (HPD.out _).mono ?_; rintro _ w4 ⟨rfl, hb4⟩; have K4 := eightB hb4 hgz Q8; have hz4 : g < w4.heap.size := Nat.lt_of_lt_of_le hgz hb4.size; have T4 : Tabs w4 := Tabs.below (by first | exact HTC | exact HTC.drew) hb4) | (go_at_call 49; refine (through_any u (s.drop m ++ pd) _ (by assumption) HU HZ.out).mono ?_; rintro _ w5 ⟨rfl, hb5⟩; have K5 := eightB hb5 hz4 K4; have hz5 : g < w5.heap.size := Nat.lt_of_lt_of_le hz4 hb5.size) | (go_at_call 51; refine (text_any _ _).mono ?_; rintro _ w6 ⟨rfl, hb6⟩; have K6 := eightB hb6 hz5 K5))
    have hw4 : Below w.heap.size w w4 := hbc.trans ((undrew hb4).mono hbc.size)
    have hw5 : Below w.heap.size w w5 := hw4.trans (hb5.mono hw4.size)
    have hw6 : Below w.heap.size w w6 := hw5.trans (hb6.mono hw5.size)
    generalize htx : Sh.txt (Sh.blocks u (s.drop m ++ pd)) = tx at *
    clear htx hw4 hw5 hb4 hb5 hb6 K4 K5 K6 T4 Q8 HPD HU
    go_wp2
    go_ret
    exact ⟨by rw [HE.out]; rfl, hw6⟩
end Go.Proofs.YtdjehpbkkbahcaaDoor
