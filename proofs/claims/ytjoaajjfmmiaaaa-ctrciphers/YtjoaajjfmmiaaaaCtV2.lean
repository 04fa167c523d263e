/- The document's answer: Cipher. CtrCiphers' walk. -/
import Derived.Test.YtjoaajjfmmiaaaaCtV1
namespace Go.Proofs.Ytjoaajjfmmiaaaa
open Go.RowKit

set_option maxRecDepth 100000 in
theorem refCipher_none (k o s : List UInt8) (gt cap : Nat) (w : World) (ht : TabS w gt) (h : (Ct.strA k o (s.length : Int)).length ≠ s.length) :
    Calls Try.prog 10 #[.slice (some ⟨gt, 0, none⟩) 256 cap, .string ⟨⟨k⟩⟩, .string ⟨⟨o⟩⟩, .string ⟨⟨s⟩⟩] w fun e w' => e = .returned (.string ⟨⟨[]⟩⟩) ∧ Below w.heap.size w w' := by
  have HS := Lib.hid fun W hT => refStream_any k o (s.length : Int) gt cap W hT
  have HT := Lib.hid ht
  clear ht
  generalize Ct.strA k o (s.length : Int) = t at *
  obtain ⟨t1, t2, t3, t4⟩ := len_false h
  clear h
  go_enter Try.func10, Try.ntmps10
  go_wp2_with fail
  refine (HS.out w HT.out).mono ?_
  rintro _ w1 ⟨rfl, hb1⟩
  go_wp2
  go_ret
  exact ⟨rfl, hb1⟩

set_option maxRecDepth 100000 in
theorem refCipher_some (k o s : List UInt8) (gt cap : Nat) (w : World) (ht : TabS w gt) (h : (Ct.strA k o (s.length : Int)).length = s.length) :
    Calls Try.prog 10 #[.slice (some ⟨gt, 0, none⟩) 256 cap, .string ⟨⟨k⟩⟩, .string ⟨⟨o⟩⟩, .string ⟨⟨s⟩⟩] w fun e w' => e = .returned (.string ⟨⟨Ct.cipA k o s⟩⟩) ∧ Below w.heap.size w w' := by
  have HS := Lib.hid fun W hT => refStream_any k o (s.length : Int) gt cap W hT
  have HT := Lib.hid ht
  have HAT := Lib.hid (cipA_at k o s)
  have HL := Lib.hid ((Ct.cipA_length k o s).trans h)
  have HLE : Hid (s.length ≤ 1048576) := by rw [Hid, ← h]; exact Ct.strA_le k o _
  clear ht
  generalize Ct.strA k o (s.length : Int) = t at *
  generalize Ct.cipA k o s = L at *
  obtain ⟨t1, t2, t3, t4⟩ := len_true h
  have HTS := Lib.hid h
  clear h
  go_enter Try.func10, Try.ntmps10
  go_wp2_with fail
  refine (HS.out w HT.out).mono ?_
  rintro _ w1 ⟨rfl, hb1⟩
  have hmk := make_full s.length (by have := HLE.out; omega) w1
  have hs1 := hb1.size
  obtain ⟨gs, hgs⟩ : ∃ g, g = w1.heap.size := ⟨_, rfl⟩
  have hgw : w.heap.size ≤ gs := by omega
  have HST : Hid (Below w.heap.size w (w1.alloc (.cells (bcells (List.replicate s.length 0)) 5)) ∧ (w1.alloc (.cells (bcells (List.replicate s.length 0)) 5)).heap[gs]? = some (.cells (bcells (L.take 0 ++ List.replicate (s.length - 0) 0)) 5 (0, 0))) :=
    ⟨hb1.alloc hs1 _, by rw [hgs]; exact heap_alloc_new _ _⟩
  have HGS := Lib.hid hgs
  clear hgs hb1 hs1 HS
  go_wp2
  rw [← HGS.out]
  clear HGS hmk
  go_loopw [11] (fun i wr => ∃ p : Nat, p ≤ s.length ∧ i = .int .i64 (p : Nat) ∧ Hid (Below w.heap.size w wr ∧ wr.heap[gs]? = some (.cells (bcells (L.take p ++ List.replicate (s.length - p) 0)) 5 (0, 0)))) (fun i _ => s.length - (intOf i).toNat)
  case atStart => exact ⟨0, by omega, rfl, HST⟩
  case round =>
    obtain ⟨p, hp, rfl, HA⟩ := hrel
    clear HST
    by_cases hlt : p < s.length
    · have hpt : p < t.length := by rw [HTS.out]; exact hlt
      have g0 := byte_at s p hlt
      have g1 := byte_at t p hpt
      obtain ⟨x, hx⟩ : ∃ x, s[p] = x := ⟨_, rfl⟩
      obtain ⟨y, hy⟩ : ∃ y, t[p] = y := ⟨_, rfl⟩
      rw [hx] at g0
      rw [hy] at g1
      obtain ⟨hbw, hrow⟩ := HA.out
      have hval : L.getD p 0 = x ^^^ y := by rw [HAT.out p hlt hpt, hx, hy]
      have hcz : wr.drew.cell? ⟨gs, p, none⟩ = some (.int .u8 (0 : Nat)) := brow_cell (wr := wr) hrow HL.out hlt
      have hfz : wr.drew.frozen? ⟨gs, p, none⟩ = false := frozen_of_row wr _ p _ _ hrow
      have HN : Hid (Below w.heap.size w (wr.drew.setCell ⟨gs, p, none⟩ (.int .u8 ((x ^^^ y).toNat : Nat))) ∧ (wr.drew.setCell ⟨gs, p, none⟩ (.int .u8 ((x ^^^ y).toNat : Nat))).heap[gs]? = some (.cells (bcells (L.take (p + 1) ++ List.replicate (s.length - (p + 1)) 0)) 5 (0, 0))) := by
        refine ⟨hbw.drew.setCell hgw _, ?_⟩
        rw [← hval]
        exact brow_set (wr := wr.drew) hrow HL.out hlt
      have hv := xor_byte x y
      have z0 : (p : Int) < t.length := by omega
      have z1 : (p : Int) < s.length := by omega
      have z2 : (p : Int) < 1048576 := by have := HLE.out; omega
      clear hx hy hval hbw hrow HA
      go_wp2_with fail
      refine wp_region_still_tail 10 (by kernel_rfl) (by kernel_rfl) ?_
      change wpStill _ _ (World.drew _) (fun a' => wpList _ _ _ _ a' (World.drew _)) _ _
      generalize wr.drew = w9 at *
      simp only [List.take_succ_cons, List.take_zero, List.drop_succ_cons, List.drop_zero]
      repeat still_step
      refine wpStill_nil ?_
      go_wp2
      go_roundw
      case rel => exact ⟨p + 1, by omega, by go_num, HN⟩
      case measure => simp [intOf]; omega
    · obtain rfl : p = s.length := by omega
      obtain ⟨hbw, hrow⟩ := HA.out
      rw [List.take_of_length_le (by rw [HL.out]; omega), Nat.sub_self, List.replicate_zero, List.append_nil] at hrow
      have hcv := conv_any wr gs s.length L 5 (0, 0) _ hrow (fun j hj => bcells_at L j hj)
      rw [HL.out] at hcv
      clear hrow HA
      go_wp2
      go_ret
      exact ⟨rfl, hbw⟩

theorem refCipher_any (k o s : List UInt8) (gt cap : Nat) (w : World) (ht : TabS w gt) :
    Calls Try.prog 10 #[.slice (some ⟨gt, 0, none⟩) 256 cap, .string ⟨⟨k⟩⟩, .string ⟨⟨o⟩⟩, .string ⟨⟨s⟩⟩] w fun e w' => e = .returned (.string ⟨⟨Ct.cipA k o s⟩⟩) ∧ Below w.heap.size w w' := by
  by_cases h : (Ct.strA k o (s.length : Int)).length = s.length
  · exact refCipher_some k o s gt cap w ht h
  · have he : Ct.cipA k o s = [] := by
      rcases Ct.strA_len k o s.length with h1 | h1
      · exact absurd h1 h
      · rw [Ct.cipA, h1]; simp [Ct.xr]
    rw [he]
    exact refCipher_none k o s gt cap w ht h

set_option maxRecDepth 100000 in
theorem ctrCiphers_yes (k o s : List UInt8) (n : Int) (w : World) (hs : s.length ≤ 300) (hn : n ≤ 300 ∨ 1048576 < n) :
    Calls Try.prog 3 #[.string ⟨⟨k⟩⟩, .string ⟨⟨o⟩⟩, .string ⟨⟨s⟩⟩, .int .i64 n] w fun e w' => e = .returned (.bool true) ∧ Below w.heap.size w w' := by
  have E1 := Lib.hid fun W => Cipher_any k o s W
  have E2 := Lib.hid fun g cap W ht => refCipher_any k o s g cap W ht
  have X1 := Lib.hid fun W => Stream_any k o n W
  have X2 := Lib.hid fun g cap W ht => refStream_any k o n g cap W ht
  generalize Ct.cipA k o s = c at *
  generalize Ct.strA k o n = x at *
  have hsi : (s.length : Int) ≤ 300 := by omega
  have hd : (decide (300 < n) && decide (n ≤ 1048576)) = false := by
    rcases hn with h | h
    · simp; omega
    · simp; omega
  rcases hn with hn | hn
  all_goals
    go_enter Try.func3, Try.ntmps3
    go_wp2_with fail
    refine (worksC_any w).mono ?_
    rintro _ w1 ⟨rfl, c1⟩
    go_wp2_with fail
    refine (Table_any w1).mono ?_
    rintro _ w2 ⟨⟨v, rfl, HO⟩, hc2⟩
    obtain ⟨g, cap, rfl, hg, htab⟩ := TabS.of HO
    have c2 := c1.trans (hc2.mono c1.size)
    have HT2 := Lib.hid htab
    clear hc2 c1 HO htab hg
    go_wp2_with fail
    refine (E1.out w2).mono ?_
    rintro _ w3 ⟨rfl, hc3⟩
    have c3 := c2.trans (hc3.mono c2.size)
    have HT3 := Lib.hid (HT2.out.below HT2.out.1 hc3 hc3.size)
    clear hc3 c2 E1 HT2
    go_wp2_with fail
    refine (E2.out g cap w3 HT3.out).mono ?_
    rintro _ w4 ⟨rfl, hc4⟩
    have c4 := c3.trans (hc4.mono c3.size)
    have HT4 := Lib.hid (HT3.out.below HT3.out.1 hc4 hc4.size)
    clear hc4 c3 E2 HT3
    go_wp2_with fail
    refine (X1.out w4).mono ?_
    rintro _ w5 ⟨rfl, hc5⟩
    have c5 := c4.trans (hc5.mono c4.size)
    have HT5 := Lib.hid (HT4.out.below HT4.out.1 hc5 hc5.size)
    clear hc5 c4 X1 HT4
    go_wp2_with fail
    refine (X2.out g cap w5 HT5.out).mono ?_
    rintro _ w6 ⟨rfl, hc6⟩
    have c6 := c5.trans (hc6.mono c5.size)
    clear hc6 c5 X2 HT5
    go_wp2
    go_ret
    exact ⟨rfl, c6⟩

set_option maxRecDepth 100000 in
theorem ctrCiphers_long (k o s : List UInt8) (n : Int) (w : World) (hs : ¬ s.length ≤ 300) :
    Calls Try.prog 3 #[.string ⟨⟨k⟩⟩, .string ⟨⟨o⟩⟩, .string ⟨⟨s⟩⟩, .int .i64 n] w fun e w' => e = .returned (.bool true) ∧ Below w.heap.size w w' := by
  have hsi : (300 : Int) < (s.length : Int) := by omega
  go_enter Try.func3, Try.ntmps3
  go_wp2_with fail
  refine (worksC_any w).mono ?_
  rintro _ w1 ⟨rfl, c1⟩
  go_wp2
  go_ret
  exact ⟨rfl, c1⟩

set_option maxRecDepth 100000 in
theorem ctrCiphers_mid (k o s : List UInt8) (n : Int) (w : World) (hs : s.length ≤ 300) (hn : 300 < n) (hm : n ≤ 1048576) :
    Calls Try.prog 3 #[.string ⟨⟨k⟩⟩, .string ⟨⟨o⟩⟩, .string ⟨⟨s⟩⟩, .int .i64 n] w fun e w' => e = .returned (.bool true) ∧ Below w.heap.size w w' := by
  have hsi : (s.length : Int) ≤ 300 := by omega
  go_enter Try.func3, Try.ntmps3
  go_wp2_with fail
  refine (worksC_any w).mono ?_
  rintro _ w1 ⟨rfl, c1⟩
  go_wp2
  go_ret
  exact ⟨rfl, c1⟩

theorem ctrCiphers_walk (k o s : List UInt8) (n : Int) (w : World) :
    Calls Try.prog 3 #[.string ⟨⟨k⟩⟩, .string ⟨⟨o⟩⟩, .string ⟨⟨s⟩⟩, .int .i64 n] w fun e w' => e = .returned (.bool true) ∧ Below w.heap.size w w' := by
  by_cases hs : s.length ≤ 300
  · by_cases hn : 300 < n
    · by_cases hm : n ≤ 1048576
      · exact ctrCiphers_mid k o s n w hs hn hm
      · exact ctrCiphers_yes k o s n w hs (.inr (by omega))
    · exact ctrCiphers_yes k o s n w hs (.inl (by omega))
  · exact ctrCiphers_long k o s n w hs
end Go.Proofs.Ytjoaajjfmmiaaaa
