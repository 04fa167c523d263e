/- Start, Block, Sum. -/
import Derived.Test.YtgdfgaobaaledaaDoorW7
import Derived.Test.YtgdfgaobaaledaaDoorW8
namespace Go.Proofs.YtgdfgaobaaledaaDoor
open Go.RowKit

theorem start_st (w : World) (HT : Tabs w) : Calls Tryd.prog 18 #[] w fun e w' => e = .returned (.agg (cells Sh.start.list)) ∧ Below w.heap.size w w' := start_any w HT

set_option maxRecDepth 100000 in
theorem Start_any (w : World) (HT : Tabs w) : Calls Tryd.prog 14 #[] w fun e w' => e = .returned (.string ⟨⟨Sh.txt Sh.start⟩⟩) ∧ Below w.heap.size w w' := by
  go_enter Tryd.func14, Tryd.ntmps14
  go_wp2_with fail
  refine (start_st w HT).mono ?_
  rintro _ w1 ⟨rfl, hb1⟩
  go_wp2_with fail
  refine (text_any Sh.start w1).mono ?_
  rintro _ w2 ⟨rfl, hb2⟩
  have hb := hb1.trans (hb2.mono hb1.size)
  clear hb1 hb2
  go_wp2
  go_ret
  exact ⟨rfl, hb⟩

theorem blocks_one (v : Sh.St) (b : List UInt8) (hb : b.length = 64) : Sh.blocks v b = Sh.beh v b := by
  rw [Sh.blocks, hb, show 64 / 64 = 0 + 1 by decide, thr_succ, Sh.thr, Nat.zero_mul, List.drop_zero, List.take_of_length_le (by omega)]

set_option maxRecDepth 100000 in
theorem Block_yes (st b : List UInt8) (w : World) (HT : Tabs w) (hs : st.length = 32) (hb : b.length = 64) :
    Calls Tryd.prog 11 #[.string ⟨⟨st⟩⟩, .string ⟨⟨b⟩⟩] w fun e w' => e = .returned (.string ⟨⟨Sh.block st b⟩⟩) ∧ Below w.heap.size w w' := by
  have HE : Hid (Sh.block st b = Sh.txt (Sh.blocks (Sh.rds st) b)) := by rw [Hid, Sh.block, if_pos ⟨hs, hb⟩, blocks_one _ _ hb]
  have HS := Lib.hid hs
  have HB := Lib.hid hb
  have e1 : ((st.length : Int) != 32) = false := by simp [hs]
  have e2 : ((b.length : Int) != 64) = false := by simp [hb]
  clear hs hb
  go_enter Tryd.func11, Tryd.ntmps11
  go_wp2_with fail
  refine (readState_any st w HS.out).mono ?_
  rintro _ w1 ⟨rfl, hb1⟩
  go_wp2_with fail
  refine (through_any (Sh.rds st) b w1 (HT.below hb1) (Sh.rds_ok st) (by have := HB.out; omega)).mono ?_
  rintro _ w2 ⟨rfl, hb2⟩
  generalize hbl : Sh.blocks (Sh.rds st) b = u at *
  have HBL := Lib.hid hbl
  clear hbl
  go_wp2_with fail
  refine (text_any u w2).mono ?_
  rintro _ w3 ⟨rfl, hb3⟩
  have hw2 := hb1.trans (hb2.mono hb1.size)
  have hw3 := hw2.trans (hb3.mono hw2.size)
  clear hb1 hb2 hb3 hw2
  go_wp2
  go_ret
  exact ⟨by rw [HE.out]; rfl, hw3⟩

set_option maxRecDepth 100000 in
theorem Block_no (st b : List UInt8) (w : World) (h : ¬ (st.length = 32 ∧ b.length = 64)) :
    Calls Tryd.prog 11 #[.string ⟨⟨st⟩⟩, .string ⟨⟨b⟩⟩] w fun e w' => e = .returned (.string ⟨⟨Sh.block st b⟩⟩) ∧ Below w.heap.size w w' := by
  have HE : Hid (Sh.block st b = []) := by rw [Hid, Sh.block, if_neg h]
  by_cases hs : st.length = 32
  · have hb : ¬ b.length = 64 := fun hb => h ⟨hs, hb⟩
    have e1 : ((st.length : Int) != 32) = false := by simp [hs]
    have e2 : ((b.length : Int) != 64) = true := by simp; omega
    clear hs hb h
    go_enter Tryd.func11, Tryd.ntmps11
    go_wp2
    go_ret
    exact ⟨by rw [HE.out]; rfl, Below.refl _ _⟩
  · have e1 : ((st.length : Int) != 32) = true := by simp; omega
    clear hs h
    go_enter Tryd.func11, Tryd.ntmps11
    go_wp2
    go_ret
    exact ⟨by rw [HE.out]; rfl, Below.refl _ _⟩

theorem Block_any (st b : List UInt8) (w : World) (HT : Tabs w) :
    Calls Tryd.prog 11 #[.string ⟨⟨st⟩⟩, .string ⟨⟨b⟩⟩] w fun e w' => e = .returned (.string ⟨⟨Sh.block st b⟩⟩) ∧ Below w.heap.size w w' := by
  by_cases h : st.length = 32 ∧ b.length = 64
  · exact Block_yes st b w HT h.1 h.2
  · exact Block_no st b w h
end Go.Proofs.YtgdfgaobaaledaaDoor
