/- works. -/
import Derived.Test.YtgdfgaobaaledaaDoorW10
namespace Go.Proofs.YtgdfgaobaaledaaDoor
open Go.RowKit

theorem Sum_abc (w : World) (HT : Tabs w) :
    Calls Tryd.prog 9 #[.string ⟨#[97, 98, 99]⟩] w fun e w' => e = .returned (.string ⟨#[186, 120, 22, 191, 143, 1, 207, 234, 65, 65, 64, 222, 93, 174, 34, 35, 176, 3, 97, 163, 150, 23, 122, 156, 180, 16, 255, 97, 242, 0, 21, 173]⟩) ∧ Below w.heap.size w w' := by
  have h := Sum_any [97, 98, 99] w HT (by decide)
  rw [Sh.sum_abc] at h
  exact h

theorem Start_len (w : World) (HT : Tabs w) (ts : List UInt8) (H : Hid (Sh.txt Sh.start = ts)) :
    Calls Tryd.prog 14 #[] w fun e w' => e = .returned (.string ⟨⟨ts⟩⟩) ∧ Below w.heap.size w w' := by
  have h := Start_any w HT
  rw [H.out] at h
  exact h
theorem pad_three (w : World) (pd : List UInt8) (H : Hid (Sh.pad 3 = pd)) :
    Calls Tryd.prog 16 #[.int .i64 3] w fun e w' => e = .returned (.string ⟨⟨pd⟩⟩) ∧ Below w.heap.size w w' := by
  have h := pad_any 3 w (by decide)
  rw [H.out] at h
  exact h
theorem block_len (st b : List UInt8) (hs : st.length = 32) (hb : b.length = 64) : (Sh.block st b).length = 32 := by
  rw [Sh.block, if_pos ⟨hs, hb⟩]
  exact Sh.txt_length _
theorem conv64 (W : World) (g : Nat) (h : W.heap[g]? = some (.cells (bcells (List.replicate 64 0)) 5 (0, 0))) :
    (convert 34 9 (.slice (some ⟨g, 0, none⟩) 64 64)).run Tryd.prog W = .ok (.string ⟨⟨List.replicate 64 0⟩⟩) W :=
  conv_any W g 64 (List.replicate 64 0) 5 (0, 0) _ h (fun j hj => bcells_at _ j hj)

set_option maxRecDepth 100000 in
set_option maxHeartbeats 2000000 in
theorem works_any (w : World) (HT : Tabs w) :
    Calls Tryd.prog 8 #[] w fun e w' => e = .returned (.bool true) ∧ Below w.heap.size w w' := by
  have hmk := make_any 64 (by decide)
  simp only [Int.cast_ofNat_Int] at hmk
  have hcv := Lib.hid conv64
  have hc1 : ∀ W : World, (convert 34 9 (.slice (some ⟨W.heap.size, 0, none⟩) 64 64)).run Tryd.prog (W.alloc (.cells (bcells (List.replicate 64 0)) 5)) = .ok (.string ⟨⟨List.replicate 64 0⟩⟩) (W.alloc (.cells (bcells (List.replicate 64 0)) 5)) := fun W => conv64 _ _ (heap_alloc_new _ _)
  have hc2 : ∀ W : World, (convert 34 9 (.slice (some ⟨W.heap.size, 0, none⟩) 64 64)).run Tryd.prog (W.alloc (.cells (bcells (List.replicate 64 0)) 5)).drew = .ok (.string ⟨⟨List.replicate 64 0⟩⟩) (W.alloc (.cells (bcells (List.replicate 64 0)) 5)).drew := fun W => conv64 _ _ (heap_alloc_new _ _)
  generalize hts : Sh.txt Sh.start = ts
  generalize hpd : Sh.pad 3 = pd
  have lts : ts.length = 32 := by rw [← hts]; exact Sh.txt_length _
  have lpd : pd.length = 61 := by rw [← hpd, Sh.pad_length]; rfl
  have HTS := Lib.hid hts
  have HPD := Lib.hid hpd
  clear hts hpd
  generalize hzz : List.replicate 64 (0 : UInt8) = z64 at *
  have lz : z64.length = 64 := by rw [← hzz]; rfl
  generalize hbk : Sh.block ts z64 = bk
  have lbk : bk.length = 32 := by rw [← hbk]; exact block_len ts z64 lts lz
  have HBK := Lib.hid hbk
  clear hzz hbk lz
  go_enter Tryd.func8, Tryd.ntmps8
  go_wp2_with fail
  go_region_with (first | (go_at_call 9; refine (Sum_abc _ (by first | exact HT | exact HT.drew)).mono ?_; rintro _ w1 ⟨rfl, hb1⟩; have T1 : Tabs w1 := Tabs.below (by first | exact HT | exact HT.drew) hb1) | (go_at_call 16; refine (pad_three _ pd HPD).mono ?_; rintro _ w3 ⟨rfl, hb3⟩; have T3 : Tabs w3 := Tabs.below TA hb3; have hin := 0) | (go_at_call 14; (fail_if_success (have := hin)); refine (Start_len _ T1 ts HTS).mono ?_; rintro _ wa ⟨rfl, hba⟩; have TA : Tabs wa := T1.below hba) | (go_at_call 14; refine (Start_len _ (by first | exact T3 | exact T3.alloc _) ts HTS).mono ?_; rintro _ w2 ⟨rfl, hb2⟩; have T2 : Tabs w2 := Tabs.below (by first | exact T3 | exact T3.alloc _) hb2; (try (have hcq := hcv.out w2 w3.heap.size ((hb2.block _ (by simp)).trans (heap_alloc_new _ _))))) | (go_at_call 11; refine (Block_any ts z64 _ (by first | exact T2 | exact T2.alloc _)).mono ?_; rintro _ w4 ⟨rfl, hb4⟩; rw [HBK.out]))
  all_goals
    have b1 : Below w.heap.size w w1 := by first | exact hb1 | exact undrew hb1
    have b2 : Below w.heap.size w wa := b1.trans (hba.mono b1.size)
    have b3 : Below w.heap.size w w3 := b2.trans (hb3.mono b2.size)
    have b4 : Below w.heap.size w w2 := by first | exact b3.trans (hb2.mono b3.size) | exact (b3.alloc b3.size _).trans (hb2.mono (Nat.le_trans b3.size (by simp)))
    have b5 : Below w.heap.size w w4 := by first | exact b4.trans (hb4.mono b4.size) | exact (b4.alloc b4.size _).trans (hb4.mono (Nat.le_trans b4.size (by simp)))
    clear b1 b2 b3 b4 hb1 hba hb3 hb2 hb4 T1 TA T3 T2 hmk hc1 hc2
    go_wp2
    go_ret
    exact ⟨rfl, b5⟩
end Go.Proofs.YtgdfgaobaaledaaDoor
