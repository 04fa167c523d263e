/- ShaParts' walk. -/
import Derived.Test.YtgdfgaobaaledaaDoorW11
import Derived.Test.YtgdfgaobaaledaaDoorPureD
namespace Go.Proofs.YtgdfgaobaaledaaDoor
open Go.RowKit

set_option maxRecDepth 100000 in
theorem shaParts_long (s : List UInt8) (w : World) (HT : Tabs w) (hs : 5000 < s.length) :
    Calls Tryd.prog 5 #[.string ⟨⟨s⟩⟩] w fun e w' => e = .returned (.bool true) ∧ Below w.heap.size w w' := by
  go_enter Tryd.func5, Tryd.ntmps5
  go_wp2_with fail
  refine (works_any w HT).mono ?_
  rintro _ w1 ⟨rfl, hb1⟩
  go_wp2
  all_goals go_ret
  all_goals exact ⟨rfl, hb1⟩

set_option maxRecDepth 100000 in
set_option maxHeartbeats 1000000 in
theorem shaParts_short (s : List UInt8) (w : World) (HT : Tabs w) (hs : s.length ≤ 5000) :
    Calls Tryd.prog 5 #[.string ⟨⟨s⟩⟩] w fun e w' => e = .returned (.bool true) ∧ Below w.heap.size w w' := by
  have HPD := Lib.hid fun W => pad_any s.length W (by omega)
  have hp1 := Sh.pad_le s.length
  have hp2 := Sh.pad_ge s.length
  have hp3 := Sh.pad_mod s.length
  have HSUM : Hid (Sh.sum s = Sh.txt (Sh.blocks Sh.start (s ++ Sh.pad s.length))) := Lib.hid rfl
  generalize Sh.pad s.length = pd at *
  have hap : ByteArray.mk ⟨s⟩ ++ ByteArray.mk ⟨pd⟩ = ⟨⟨s ++ pd⟩⟩ := app_str _ _
  go_enter Tryd.func5, Tryd.ntmps5
  go_wp2_with fail
  refine (works_any w HT).mono ?_
  rintro _ w1 ⟨rfl, hb1⟩
  go_wp2_with fail
  refine (HPD.out _).mono ?_
  rintro _ w2 ⟨rfl, hb2⟩
  have b2 := hb1.trans (hb2.mono hb1.size)
  clear hb1 hb2 HPD
  go_wp2_with fail
  have htl : (s ++ pd).length = s.length + pd.length := List.length_append
  generalize s ++ pd = t at *
  have ht6 : t.length % 64 = 0 := by rw [htl]; exact hp3
  have ht5 : t.length ≤ 6000 := by omega
  have HT2 := HT.below b2
  clear htl hap hp1 hp2 hp3
  refine (Start_any w2 HT2).mono ?_
  rintro _ w3 ⟨rfl, hb3⟩
  have b3 := b2.trans (hb3.mono b2.size)
  clear hb3 b2 HT2
  go_wp2_with fail
  go_loopw [5, 6] (fun st i wr => ∃ k : Nat, k ≤ t.length / 64 ∧ i = .int .i64 ((k * 64 : Nat) : Int) ∧ st = .string ⟨⟨Sh.txt (Sh.thr Sh.start t k)⟩⟩ ∧ Below w.heap.size w wr) (fun _ i _ => t.length - (intOf i).toNat)
  case atStart => exact ⟨0, by omega, rfl, rfl, b3⟩
  case round =>
    obtain ⟨k, hk, rfl, rfl, hb⟩ := hrel
    clear b3
    by_cases hlt : k < t.length / 64
    · have HO := Sh.thr_ok Sh.start_ok t k
      have HE : Hid (Sh.block (Sh.txt (Sh.thr Sh.start t k)) ((t.drop (k * 64)).take 64) = Sh.txt (Sh.thr Sh.start t (k + 1))) := by
        rw [Hid, Sh.block_txt _ HO _ (by simp; omega), ← thr_succ]
      have HLN := Lib.hid (Sh.txt_length (Sh.thr Sh.start t (k + 1)))
      generalize htn : Sh.txt (Sh.thr Sh.start t (k + 1)) = tn at *
      have HTN := Lib.hid htn
      clear htn
      generalize Sh.txt (Sh.thr Sh.start t k) = tp at *
      obtain ⟨i, hi⟩ : ∃ i : Nat, i = k * 64 := ⟨_, rfl⟩
      rw [← hi] at HE ⊢
      have hi64 : i + 64 ≤ t.length := by omega
      have HI := Lib.hid hi
      have HCUT : Hid ((t.drop i).take (i + 64 - i) = (t.drop i).take 64) := by rw [Hid, Nat.add_sub_cancel_left]
      clear hi HO
      go_wp2_with fail
      rw [cut_str, HCUT.out]
      refine (Block_any tp _ wr (HT.below hb)).mono ?_
      rintro _ w4 ⟨rfl, hb4⟩
      rw [HE.out]
      have b4 := hb.trans (hb4.mono hb.size)
      have e32 : ((tn.length : Int) != 32) = false := by rw [HLN.out]; rfl
      clear hb4
      go_wp2
      go_roundw
      case rel => exact ⟨k + 1, by omega, by have := HI.out; go_num, by rw [HTN.out], b4⟩
      case measure => simp [intOf]; omega
    · obtain rfl : k = t.length / 64 := by omega
      have HBL : Hid (Sh.sum s = Sh.txt (Sh.thr Sh.start t (t.length / 64))) := HSUM
      generalize hfin : Sh.txt (Sh.thr Sh.start t (t.length / 64)) = tn at *
      have hi : t.length / 64 * 64 = t.length := by omega
      have hi2 : ((t.length / 64 * 64 : Nat) : Int) = (t.length : Int) := by rw [hi]
      rw [hi2]
      clear hi hi2 hfin HSUM
      go_wp2_with fail
      refine (Sum_any s wr (HT.below hb) (by omega)).mono ?_
      rintro _ w4 ⟨rfl, hb4⟩
      rw [HBL.out]
      have b4 := hb.trans (hb4.mono hb.size)
      clear hb4
      go_wp2
      go_ret
      exact ⟨rfl, b4⟩

theorem shaParts_walk (s : List UInt8) (w : World) (HT : Tabs w) :
    Calls Tryd.prog 5 #[.string ⟨⟨s⟩⟩] w fun e w' => e = .returned (.bool true) ∧ Below w.heap.size w w' := by
  by_cases h : s.length ≤ 5000
  · exact shaParts_short s w HT h
  · exact shaParts_long s w HT (by omega)
end Go.Proofs.YtgdfgaobaaledaaDoor
