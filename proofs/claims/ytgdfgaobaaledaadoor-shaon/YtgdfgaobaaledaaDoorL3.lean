/- ShaOn's walk. -/
import Derived.Test.YtgdfgaobaaledaaDoorW11
import Derived.Test.YtgdfgaobaaledaaDoorPureD
namespace Go.Proofs.YtgdfgaobaaledaaDoor
open Go.RowKit

set_option maxRecDepth 100000 in
theorem shaOn_no1 (a b : List UInt8) (w : World) (HT : Tabs w) (h1 : 1000 < a.length) :
    Calls Tryd.prog 7 #[.string ⟨⟨a⟩⟩, .string ⟨⟨b⟩⟩] w fun e w' => e = .returned (.bool true) ∧ Below w.heap.size w w' := by
  go_enter Tryd.func7, Tryd.ntmps7
  go_wp2_with fail
  refine (works_any w HT).mono ?_
  rintro _ w1 ⟨rfl, hb1⟩
  go_wp2
  all_goals go_ret
  all_goals exact ⟨rfl, hb1⟩

set_option maxRecDepth 100000 in
theorem shaOn_no2 (a b : List UInt8) (w : World) (HT : Tabs w) (h0 : a.length ≤ 1000) (h1 : 1000 < b.length) :
    Calls Tryd.prog 7 #[.string ⟨⟨a⟩⟩, .string ⟨⟨b⟩⟩] w fun e w' => e = .returned (.bool true) ∧ Below w.heap.size w w' := by
  go_enter Tryd.func7, Tryd.ntmps7
  go_wp2_with fail
  refine (works_any w HT).mono ?_
  rintro _ w1 ⟨rfl, hb1⟩
  go_wp2
  all_goals go_ret
  all_goals exact ⟨rfl, hb1⟩

set_option maxRecDepth 100000 in
theorem shaOn_no3 (a b : List UInt8) (w : World) (HT : Tabs w) (h0 : a.length ≤ 1000) (h1 : b.length ≤ 1000) (h2 : ¬ a.length % 64 = 0) :
    Calls Tryd.prog 7 #[.string ⟨⟨a⟩⟩, .string ⟨⟨b⟩⟩] w fun e w' => e = .returned (.bool true) ∧ Below w.heap.size w w' := by
  have e : ((a.length : Int) % 64 != 0) = true := by rw [bne_iff_ne]; omega
  go_enter Tryd.func7, Tryd.ntmps7
  go_wp2_with fail
  refine (works_any w HT).mono ?_
  rintro _ w1 ⟨rfl, hb1⟩
  go_wp2
  all_goals go_ret
  all_goals exact ⟨rfl, hb1⟩

set_option maxRecDepth 100000 in
set_option maxHeartbeats 1000000 in
theorem shaOn_yes (a b : List UInt8) (w : World) (HT : Tabs w) (h0 : a.length ≤ 1000) (h1 : b.length ≤ 1000) (h2 : a.length % 64 = 0) :
    Calls Tryd.prog 7 #[.string ⟨⟨a⟩⟩, .string ⟨⟨b⟩⟩] w fun e w' => e = .returned (.bool true) ∧ Below w.heap.size w w' := by
  have e0 : ((a.length : Int) % 64 != 0) = false := by rw [bne_eq_false_iff_eq]; omega
  have HPD := Lib.hid fun W => pad_any (a.length + b.length) W (by omega)
  have hp1 := Sh.pad_le (a.length + b.length)
  have hp3 := Sh.pad_mod (a.length + b.length)
  have HSUM : Hid (Sh.sum (a ++ b) = Sh.txt (Sh.blocks Sh.start (a ++ (b ++ Sh.pad (a.length + b.length))))) := by rw [Hid, Sh.sum, List.length_append, List.append_assoc]
  generalize Sh.pad (a.length + b.length) = pd at *
  have hap : ByteArray.mk ⟨a⟩ ++ ByteArray.mk ⟨b⟩ = ⟨⟨a ++ b⟩⟩ := app_str _ _
  have hap2 : ByteArray.mk ⟨a ++ b⟩ ++ ByteArray.mk ⟨pd⟩ = ⟨⟨a ++ (b ++ pd)⟩⟩ := by rw [app_str, List.append_assoc]
  have H2 := Lib.hid h2
  clear h2
  go_enter Tryd.func7, Tryd.ntmps7
  go_wp2_with fail
  refine (works_any w HT).mono ?_
  rintro _ w1 ⟨rfl, hb1⟩
  go_wp2_with fail
  refine (Start_any w1 (HT.below hb1)).mono ?_
  rintro _ w2 ⟨rfl, hb2⟩
  have b2 := hb1.trans (hb2.mono hb1.size)
  clear hb1 hb2
  go_wp2_with fail
  rw [show ((a.length : Int) + (b.length : Int)) = ((a.length + b.length : Nat) : Int) by omega]
  refine (HPD.out _).mono ?_
  rintro _ w3 ⟨rfl, hb3⟩
  have b3 := b2.trans (hb3.mono b2.size)
  clear hb3 b2 HPD
  go_wp2_with fail
  have htl : (a ++ (b ++ pd)).length = a.length + b.length + pd.length := by rw [List.length_append, List.length_append, Nat.add_assoc]
  have HLEFT : Hid (Sh.thr Sh.start (a ++ (b ++ pd)) (a.length / 64) = Sh.thr Sh.start a (a.length / 64)) := by
    rw [Hid, Sh.thr_left _ _ _ _ (by omega)]
  generalize a ++ (b ++ pd) = t at *
  have ht6 : t.length % 64 = 0 := by rw [htl]; exact hp3
  have ht5 : t.length ≤ 3000 := by omega
  have hta : a.length ≤ t.length := by omega
  have H6 := Lib.hid ht6
  clear htl hap2 hp1 hp3 ht6
  go_loopw [6, 8] (fun st i wr => ∃ k : Nat, k ≤ a.length / 64 ∧ i = .int .i64 ((k * 64 : Nat) : Int) ∧ st = .string ⟨⟨Sh.txt (Sh.thr Sh.start a k)⟩⟩ ∧ Below w.heap.size w wr) (fun _ i _ => a.length - (intOf i).toNat)
  case atStart => exact ⟨0, by omega, rfl, rfl, b3⟩
  case round =>
    obtain ⟨k, hk, rfl, rfl, hb⟩ := hrel
    clear b3
    have h2 := H2.out
    by_cases hlt : k < a.length / 64
    · have HO := Sh.thr_ok Sh.start_ok a k
      have HE : Hid (Sh.block (Sh.txt (Sh.thr Sh.start a k)) ((a.drop (k * 64)).take 64) = Sh.txt (Sh.thr Sh.start a (k + 1))) := by
        rw [Hid, Sh.block_txt _ HO _ (by simp; omega), ← thr_succ]
      generalize htn : Sh.txt (Sh.thr Sh.start a (k + 1)) = tn at *
      have HTN := Lib.hid htn
      clear htn
      generalize Sh.txt (Sh.thr Sh.start a k) = tp at *
      obtain ⟨i, hi⟩ : ∃ i : Nat, i = k * 64 := ⟨_, rfl⟩
      rw [← hi] at HE ⊢
      have hi64 : i + 64 ≤ a.length := by omega
      have HI := Lib.hid hi
      have HCUT : Hid ((a.drop i).take (i + 64 - i) = (a.drop i).take 64) := by rw [Hid, Nat.add_sub_cancel_left]
      clear hi HO h2
      go_wp2_with fail
      rw [cut_str, HCUT.out]
      refine (Block_any tp _ wr (HT.below hb)).mono ?_
      rintro _ w4 ⟨rfl, hb4⟩
      rw [HE.out]
      have b4 := hb.trans (hb4.mono hb.size)
      clear hb4
      go_wp2
      go_roundw
      case rel => exact ⟨k + 1, by omega, by have := HI.out; go_num, by rw [HTN.out], b4⟩
      case measure => simp [intOf]; omega
    · obtain rfl : k = a.length / 64 := by omega
      have hi : a.length / 64 * 64 = a.length := by omega
      have hi2 : ((a.length / 64 * 64 : Nat) : Int) = (a.length : Int) := by rw [hi]
      rw [hi2, ← HLEFT.out]
      clear hi hi2 HLEFT
      go_wp2_with fail
      go_loopw [6, 9] (fun st i wr => ∃ k : Nat, a.length / 64 ≤ k ∧ k ≤ t.length / 64 ∧ i = .int .i64 ((k * 64 : Nat) : Int) ∧ st = .string ⟨⟨Sh.txt (Sh.thr Sh.start t k)⟩⟩ ∧ Below w.heap.size w wr) (fun _ i _ => t.length - (intOf i).toNat)
      case atStart => exact ⟨a.length / 64, Nat.le_refl _, by omega, by rw [show a.length / 64 * 64 = a.length by omega], rfl, hb⟩
      case round =>
        obtain ⟨k, hka, hk, rfl, rfl, hb⟩ := hrel
        have h6 := H6.out
        clear h2
        by_cases hlt : k < t.length / 64
        · have HO := Sh.thr_ok Sh.start_ok t k
          have HE : Hid (Sh.block (Sh.txt (Sh.thr Sh.start t k)) ((t.drop (k * 64)).take 64) = Sh.txt (Sh.thr Sh.start t (k + 1))) := by
            rw [Hid, Sh.block_txt _ HO _ (by simp; omega), ← thr_succ]
          generalize htn : Sh.txt (Sh.thr Sh.start t (k + 1)) = tn at *
          have HTN := Lib.hid htn
          clear htn
          generalize Sh.txt (Sh.thr Sh.start t k) = tp at *
          obtain ⟨i, hi⟩ : ∃ i : Nat, i = k * 64 := ⟨_, rfl⟩
          rw [← hi] at HE ⊢
          have hi64 : i + 64 ≤ t.length := by omega
          have HI := Lib.hid hi
          have HCUT : Hid ((t.drop i).take (i + 64 - i) = (t.drop i).take 64) := by rw [Hid, Nat.add_sub_cancel_left]
          clear hi HO h6
          go_wp2_with fail
          rw [cut_str, HCUT.out]
          refine (Block_any tp _ _ (HT.below hb)).mono ?_
          rintro _ w4 ⟨rfl, hb4⟩
          rw [HE.out]
          have b4 := hb.trans (hb4.mono hb.size)
          clear hb4
          go_wp2
          go_roundw
          case rel => exact ⟨k + 1, by omega, by omega, by have := HI.out; go_num, by rw [HTN.out], b4⟩
          case measure => simp [intOf]; omega
        · obtain rfl : k = t.length / 64 := by omega
          have HBL : Hid (Sh.sum (a ++ b) = Sh.txt (Sh.thr Sh.start t (t.length / 64))) := HSUM
          generalize hfin : Sh.txt (Sh.thr Sh.start t (t.length / 64)) = tn at *
          have hi : t.length / 64 * 64 = t.length := by omega
          have hi2 : ((t.length / 64 * 64 : Nat) : Int) = (t.length : Int) := by rw [hi]
          rw [hi2]
          have e6 : ((t.length : Int) % 64 == 0) = true := by rw [beq_iff_eq]; omega
          clear hi hi2 hfin HSUM h6
          go_wp2_with fail
          refine (Sum_any (a ++ b) _ (HT.below hb) (by rw [List.length_append]; omega)).mono ?_
          rintro _ w4 ⟨rfl, hb4⟩
          rw [HBL.out]
          have b4 := hb.trans (hb4.mono hb.size)
          clear hb4
          go_wp2_with fail
          refine (Sum_any b _ (HT.below b4) (by omega)).mono ?_
          rintro _ w5 ⟨rfl, hb5⟩
          have b5 := b4.trans (hb5.mono b4.size)
          have hsl : (Sh.sum b).length = 32 := Sh.txt_length _
          generalize Sh.sum b = sb at *
          clear hb5
          go_wp2
          go_ret
          exact ⟨rfl, b5⟩

theorem shaOn_walk (a b : List UInt8) (w : World) (HT : Tabs w) :
    Calls Tryd.prog 7 #[.string ⟨⟨a⟩⟩, .string ⟨⟨b⟩⟩] w fun e w' => e = .returned (.bool true) ∧ Below w.heap.size w w' := by
  by_cases h0 : 1000 < a.length
  · exact shaOn_no1 a b w HT h0
  · by_cases h1 : 1000 < b.length
    · exact shaOn_no2 a b w HT (by omega) h1
    · by_cases h2 : a.length % 64 = 0
      · exact shaOn_yes a b w HT (by omega) (by omega) h2
      · exact shaOn_no3 a b w HT (by omega) (by omega) h2
end Go.Proofs.YtgdfgaobaaledaaDoor
