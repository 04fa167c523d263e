/- The document's answer: Block of any texts, SumBy, Sum. -/
import Derived.Test.YtihgglplbanegaaDoorShaV10
import Derived.Test.YtihgglplbanegaaDoorShaV9
namespace Go.Proofs.YtihgglplbanegaaDoor
open Go.RowKit

set_option maxRecDepth 100000 in
theorem refBlock_no (vk : Value) (st b : List UInt8) (w : World) (h : ¬ (st.length = 32 ∧ b.length = 64)) :
    Calls Tryd.prog 48 #[vk, .string ⟨⟨st⟩⟩, .string ⟨⟨b⟩⟩] w fun e w' => e = .returned (.string ⟨⟨Sh.block st b⟩⟩) ∧ Below w.heap.size w w' := by
  have HE : Hid (Sh.block st b = []) := by rw [Hid, Sh.block, if_neg h]
  by_cases hs : st.length = 32
  · have hb : ¬ b.length = 64 := fun hb => h ⟨hs, hb⟩
    have e1 : ((st.length : Int) != 32) = false := by simp [hs]
    have e2 : ((b.length : Int) != 64) = true := by simp; omega
    clear hs hb h
    go_enter Tryd.func48, Tryd.ntmps48
    go_wp2
    go_ret
    exact ⟨by rw [HE.out]; rfl, Below.refl _ _⟩
  · have e1 : ((st.length : Int) != 32) = true := by simp; omega
    clear hs h
    go_enter Tryd.func48, Tryd.ntmps48
    go_wp2
    go_ret
    exact ⟨by rw [HE.out]; rfl, Below.refl _ _⟩

theorem wl16 (b : List UInt8) : wl b 16 = (Sh.sp b 64).take 16 := by
  rw [Sh.sp_take b 64 16 (by decide)]
  have h : ∀ n, n ≤ 16 → wl b n = Sh.sp b n := by
    intro n hn
    induction n with
    | zero => rfl
    | succ n ih => rw [wl_succ, ih (by omega), Sh.sp, if_pos (by omega)]
  exact h 16 (Nat.le_refl _)
theorem wl8 (st : List UInt8) : wl st 8 = (Sh.rds st).list := rfl

theorem refBlock_any (vk : Value) (st b : List UInt8) (w : World) (HK : Ints w vk Sh.KK) :
    Calls Tryd.prog 48 #[vk, .string ⟨⟨st⟩⟩, .string ⟨⟨b⟩⟩] w fun e w' => e = .returned (.string ⟨⟨Sh.block st b⟩⟩) ∧ Below w.heap.size w w' := by
  by_cases h : st.length = 32 ∧ b.length = 64
  · have hE : Sh.block st b = Sh.txt (Sh.plus (Sh.rds st) (Sh.rn (Sh.sp b 64) (Sh.rds st) 64)) := by rw [Sh.block, if_pos h, Sh.beh]
    rw [hE]
    exact refBlock_by vk st b (Sh.sp b 64) w HK (Lib.hid h.1) (Lib.hid h.2) (Lib.hid (Sh.sp_length b 64)) (Lib.hid (Sh.sp_lt b 64)) (Lib.hid (wl16 b)) (Lib.hid (wl8 st)) (Lib.hid fun t h1 h2 => by rw [Sh.sp_get b t h2, if_neg (by omega)])
  · exact refBlock_no vk st b w h

set_option maxRecDepth 100000 in
set_option maxHeartbeats 1000000 in
theorem refSumBy_any (vk : Value) (s : List UInt8) (w : World) (HK : Ints w vk Sh.KK) (hs : s.length ≤ 5000) :
    Calls Tryd.prog 44 #[vk, .string ⟨⟨Sh.txt Sh.start⟩⟩, .string ⟨⟨s⟩⟩] w fun e w' => e = .returned (.string ⟨⟨Sh.sum s⟩⟩) ∧ Below w.heap.size w w' := by
  have HPD := Lib.hid fun W => refPad_any s.length W (by omega)
  have hp1 := Sh.pad_le s.length
  have hp3 := Sh.pad_mod s.length
  have HSUM : Hid (Sh.sum s = Sh.txt (Sh.blocks Sh.start (s ++ Sh.pad s.length))) := Lib.hid rfl
  generalize Sh.pad s.length = pd at *
  have hap : ByteArray.mk ⟨s⟩ ++ ByteArray.mk ⟨pd⟩ = ⟨⟨s ++ pd⟩⟩ := app_str _ _
  have HTX : Hid (Sh.txt Sh.start = Sh.txt (Sh.thr Sh.start (s ++ pd) 0)) := by rw [Hid, Sh.thr]
  generalize htx : Sh.txt Sh.start = tx at *
  have HTX2 := Lib.hid htx
  clear htx
  go_enter Tryd.func44, Tryd.ntmps44
  go_wp2_with fail
  refine (HPD.out _).mono ?_
  rintro _ w1 ⟨rfl, hb1⟩
  have htl : (s ++ pd).length = s.length + pd.length := List.length_append
  have hl1 : s.length + pd.length ≤ 9223372036854775807 := by omega
  go_wp2_with fail
  generalize s ++ pd = t at *
  have ht6 : t.length % 64 = 0 := by rw [htl]; exact hp3
  have ht5 : t.length ≤ 6000 := by omega
  clear htl hap hp1 hp3 HPD hl1
  go_loopw [8, 9] (fun st i wr => ∃ k : Nat, k ≤ t.length / 64 ∧ i = .int .i64 ((k * 64 : Nat) : Int) ∧ st = .string ⟨⟨Sh.txt (Sh.thr Sh.start t k)⟩⟩ ∧ Below w.heap.size w wr) (fun _ i _ => t.length - (intOf i).toNat)
  case atStart => exact ⟨0, by omega, rfl, by rw [HTX.out], hb1⟩
  case round =>
    obtain ⟨k, hk, rfl, rfl, hb⟩ := hrel
    clear hb1
    by_cases hlt : k < t.length / 64
    · have HO := Sh.thr_ok Sh.start_ok t k
      have HE : Hid (Sh.block (Sh.txt (Sh.thr Sh.start t k)) ((t.drop (k * 64)).take 64) = Sh.txt (Sh.thr Sh.start t (k + 1))) := by
        rw [Hid, Sh.block_txt _ HO _ (by simp; omega), ← thr_succ]
      generalize htn : Sh.txt (Sh.thr Sh.start t (k + 1)) = tn at *
      have HTN := Lib.hid htn
      clear htn
      generalize Sh.txt (Sh.thr Sh.start t k) = tp at *
      obtain ⟨i, hi⟩ : ∃ i : Nat, i = k * 64 := ⟨_, rfl⟩
      rw [← hi] at HE ⊢
      have hi64 : i + 64 ≤ t.length := by omega
      have HI := Lib.hid hi
      have HCUT : Hid ((t.drop i).take (i + 64 - i) = (t.drop i).take 64) := by rw [Hid, Nat.add_sub_cancel_left]
      clear hi HO
      go_wp2_with fail
      rw [cut_str, HCUT.out]
      refine (refBlock_any vk tp _ wr (HK.below hb)).mono ?_
      rintro _ w4 ⟨rfl, hb4⟩
      rw [HE.out]
      have b4 := hb.trans (hb4.mono hb.size)
      clear hb4
      go_wp2
      go_roundw
      case rel => exact ⟨k + 1, by omega, by have := HI.out; go_num, by rw [HTN.out], b4⟩
      case measure => simp [intOf]; omega
    · obtain rfl : k = t.length / 64 := by omega
      have HBL : Hid (Sh.sum s = Sh.txt (Sh.thr Sh.start t (t.length / 64))) := HSUM
      generalize hfin : Sh.txt (Sh.thr Sh.start t (t.length / 64)) = tn at *
      have hi : t.length / 64 * 64 = t.length := by omega
      have hi2 : ((t.length / 64 * 64 : Nat) : Int) = (t.length : Int) := by rw [hi]
      rw [hi2]
      clear hi hi2 hfin HSUM
      go_wp2
      go_ret
      exact ⟨by rw [HBL.out]; rfl, hb⟩

end Go.Proofs.YtihgglplbanegaaDoor
