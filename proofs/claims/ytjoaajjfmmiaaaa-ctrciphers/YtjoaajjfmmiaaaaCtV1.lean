/- The document's answer: Stream. -/
import Derived.Test.YtjoaajjfmmiaaaaCtW5
import Derived.Test.YtjoaajjfmmiaaaaAeL6
namespace Go.Proofs.Ytjoaajjfmmiaaaa
open Go.RowKit

set_option maxRecDepth 100000 in
theorem refStream_no (k o : List UInt8) (v : Value) (n : Int) (w : World) (h : ¬ (k.length = 16 ∧ o.length = 12 ∧ 0 ≤ n ∧ n ≤ 1048576)) :
    Calls Try.prog 12 #[v, .string ⟨⟨k⟩⟩, .string ⟨⟨o⟩⟩, .int .i64 n] w fun e w' => e = .returned (.string ⟨⟨[]⟩⟩) ∧ w = w' := by
  by_cases hk : k.length = 16
  · obtain ⟨k1, k2, k3, k4⟩ := len_true hk
    simp only [Int.cast_ofNat_Int] at k1 k3
    by_cases ho : o.length = 12
    · obtain ⟨o1, o2, o3, o4⟩ := len_true ho
      simp only [Int.cast_ofNat_Int] at o1 o3
      by_cases hn : n < 0
      · clear h hk ho
        go_enter Try.func12, Try.ntmps12
        go_wp2
        go_ret
        exact ⟨rfl, rfl⟩
      · have hm : 1048576 < n := by
          rcases Int.lt_or_le 1048576 n with h1 | h1
          · exact h1
          · exact absurd ⟨hk, ho, by omega, h1⟩ h
        clear h hk ho
        go_enter Try.func12, Try.ntmps12
        go_wp2
        go_ret
        exact ⟨rfl, rfl⟩
    · obtain ⟨o1, o2, o3, o4⟩ := len_false ho
      simp only [Int.cast_ofNat_Int] at o1 o3
      clear h hk ho
      go_enter Try.func12, Try.ntmps12
      go_wp2
      go_ret
      exact ⟨rfl, rfl⟩
  · obtain ⟨k1, k2, k3, k4⟩ := len_false hk
    simp only [Int.cast_ofNat_Int] at k1 k3
    clear h hk
    go_enter Try.func12, Try.ntmps12
    go_wp2
    go_ret
    exact ⟨rfl, rfl⟩

theorem refEncrypt_blk (k o : List UInt8) (i gt cap : Nat) (w : World) (hk : k.length = 16) (ho : o.length = 12) (ht : TabS w gt) :
    Calls Try.prog 16 #[.slice (some ⟨gt, 0, none⟩) 256 cap, .string ⟨⟨k⟩⟩, .string ⟨⟨o ++ Ct.num i⟩⟩] w fun e w' => e = .returned (.string ⟨⟨Ct.blk k o i⟩⟩) ∧ Below w.heap.size w w' :=
  refEncrypt_yes k _ gt cap w hk (by rw [List.length_append, ho, Ct.num_length]) ht

set_option maxRecDepth 100000 in
theorem refStream_yes (k o : List UInt8) (n gt cap : Nat) (w : World) (hk : k.length = 16) (ho : o.length = 12) (hn : n ≤ 1048576) (ht : TabS w gt) :
    Calls Try.prog 12 #[.slice (some ⟨gt, 0, none⟩) 256 cap, .string ⟨⟨k⟩⟩, .string ⟨⟨o⟩⟩, .int .i64 (n : Nat)] w fun e w' => e = .returned (.string ⟨⟨Ct.str k o n⟩⟩) ∧ Below w.heap.size w w' := by
  obtain ⟨k1, k2, k3, k4⟩ := len_true hk
  obtain ⟨o1, o2, o3, o4⟩ := len_true ho
  simp only [Int.cast_ofNat_Int] at k1 k3 o1 o3
  have hn0 : ¬ (n : Int) < 0 := by omega
  have hn1 : ¬ (1048576 : Int) < (n : Int) := by omega
  have HE := Lib.hid fun i W hT => refEncrypt_blk k o i gt cap W hk ho hT
  have HT := Lib.hid ht
  clear ht hk
  go_enter Try.func12, Try.ntmps12
  go_wp2
  go_loopw [9, 10] (fun st i wr => ∃ c : Nat, 16 * c ≤ n + 15 ∧ i = .int .i64 (c : Nat) ∧ st = .string ⟨⟨Ct.blks k o c⟩⟩ ∧ Hid (Below w.heap.size w wr)) (fun _ i _ => n - 16 * (intOf i).toNat)
  case atStart => exact ⟨0, by omega, rfl, rfl, Below.refl _ _⟩
  case round =>
    obtain ⟨c, hc, rfl, rfl, HB⟩ := hrel
    have HL := Lib.hid (Ct.blks_length k o c)
    by_cases hlt : 16 * c < n
    · have HTR : Hid (TabS wr gt) := HT.out.below HT.out.1 HB.out HB.out.size
      have HW := Lib.hid (HE.out c)
      have HS : Hid (Ct.blks k o (c + 1) = Ct.blks k o c ++ Ct.blk k o c) := rfl
      have HBL := Lib.hid (Ct.blk_length k o c)
      have HN : Hid (Ct.num c = [UInt8.ofNat (c / 16777216), UInt8.ofNat (c / 65536), UInt8.ofNat (c / 256), UInt8.ofNat c]) := rfl
      generalize Ct.blks k o c = tp at *
      generalize Ct.blk k o c = x at *
      generalize Ct.num c = nm at *
      have htl : (tp.length : Int) < (n : Int) := by have := HL.out; omega
      have d0 : (c : Int) / 16777216 = ((UInt8.ofNat (c / 16777216)).toNat : Nat) := by rw [UInt8.toNat_ofNat']; omega
      have d1 : (c : Int) / 65536 = ((UInt8.ofNat (c / 65536)).toNat : Nat) := by rw [UInt8.toNat_ofNat']; omega
      have d2 : (c : Int) / 256 = ((UInt8.ofNat (c / 256)).toNat : Nat) := by rw [UInt8.toNat_ofNat']; omega
      have d3 : (c : Int) % 256 = ((UInt8.ofNat c).toNat : Nat) := by rw [UInt8.toNat_ofNat']; omega
      generalize UInt8.ofNat (c / 16777216) = c0 at *
      generalize UInt8.ofNat (c / 65536) = c1 at *
      generalize UInt8.ofNat (c / 256) = c2 at *
      generalize UInt8.ofNat c = c3 at *
      have hcv := conv_four wr c0 c1 c2 c3
      have hap : ByteArray.mk ⟨o⟩ ++ ByteArray.mk ⟨[c0, c1, c2, c3]⟩ = ⟨⟨o ++ nm⟩⟩ := by rw [HN.out]; exact str_app _ _
      have hap2 : ByteArray.mk ⟨tp⟩ ++ ByteArray.mk ⟨x⟩ = ⟨⟨tp ++ x⟩⟩ := str_app _ _
      have hl1 : o.length + 4 ≤ 9223372036854775807 := by omega
      have hl2 : tp.length + x.length ≤ 9223372036854775807 := by have := HL.out; have := HBL.out; omega
      have hl3 : ¬ 9223372036854775807 < tp.length + x.length := by omega
      have hci : (c : Int) ≤ 65536 := by omega
      go_wp2_with fail
      refine (HW.out _ (HTR.out.below HTR.out.1 ((Below.refl _ _).alloc (Nat.le_refl _) _) (by simp))).mono ?_
      rintro _ w2 ⟨rfl, hb2⟩
      have hB2 : Hid (Below w.heap.size w w2) := by
        have h1 := HB.out.alloc HB.out.size (.cells #[.int .u8 (c0.toNat : Nat), .int .u8 (c1.toNat : Nat), .int .u8 (c2.toNat : Nat), .int .u8 (c3.toNat : Nat)] 5)
        exact h1.trans (hb2.mono h1.size)
      clear hb2 hcv d0 d1 d2 d3
      go_wp2
      go_roundw
      case rel => exact ⟨c + 1, by omega, by go_num, by rw [HS.out], hB2⟩
      case measure => simp [intOf]; omega
    · have hst : (Ct.blks k o c).take n = Ct.str k o n := Ct.str_take k o n c (by omega)
      have htl : ¬ ((Ct.blks k o c).length : Int) < (n : Int) := by rw [HL.out]; omega
      have htn : (n : Int) ≤ ((Ct.blks k o c).length : Int) := by omega
      generalize Ct.blks k o c = tp at *
      have hcut : (ByteArray.mk ⟨tp⟩).extract 0 n = ⟨⟨Ct.str k o n⟩⟩ := by rw [cut_str, List.drop_zero, Nat.sub_zero, hst]
      have htz : tp.length ≤ 9223372036854775807 := by have := HL.out; omega
      clear hst
      go_wp2
      go_ret
      exact ⟨rfl, HB.out⟩

theorem refStream_any (k o : List UInt8) (n : Int) (gt cap : Nat) (w : World) (ht : TabS w gt) :
    Calls Try.prog 12 #[.slice (some ⟨gt, 0, none⟩) 256 cap, .string ⟨⟨k⟩⟩, .string ⟨⟨o⟩⟩, .int .i64 n] w fun e w' => e = .returned (.string ⟨⟨Ct.strA k o n⟩⟩) ∧ Below w.heap.size w w' := by
  by_cases h : k.length = 16 ∧ o.length = 12 ∧ 0 ≤ n ∧ n ≤ 1048576
  · obtain ⟨m, rfl⟩ := Int.eq_ofNat_of_zero_le h.2.2.1
    rw [Ct.strA_yes h.1 h.2.1 (by omega)]
    exact refStream_yes k o m gt cap w h.1 h.2.1 (by omega) ht
  · rw [Ct.strA_no h]
    exact (refStream_no k o _ n w h).mono fun _ _ ⟨he, hw⟩ => ⟨he, hw ▸ Below.refl _ _⟩
end Go.Proofs.Ytjoaajjfmmiaaaa
