import Derived.Test.YtmjpjbnaahdcmaaW12
import Derived.Laws.BitsAllLaws
namespace Go.Proofs.Ytmjpjbnaahdcmaa
open Go.RowKit
open Wr

set_option maxHeartbeats 2000000 in
set_option maxRecDepth 100000 in
theorem wireBytes_walk (n : Bool) (t : Int) (s : List UInt8) (l : List It) (A : Option Addr) (ca : Nat) (at_ : Int) (y : Nat) (S : Nat → Prop) (w : World) (hrep : Rep w S (.mk n t s l) (.agg #[.bool n, .int .i64 t, .string ⟨⟨s⟩⟩, .slice A l.length ca])) (hS : ∀ b, S b → b < w.heap.size) (hk : bk (.mk n t s l) ≤ 2000000) (hy1 : y < 256) :
    Calls Try.prog 8 #[.agg #[.bool n, .int .i64 t, .string ⟨⟨s⟩⟩, .slice A l.length ca], .int .i64 at_, .int .u8 (y : Int)] w fun e w' => e = .returned (.bool true) ∧ Below w.heap.size w w' := by
  have HH := Lib.hid (Hold.new hrep hS)
  have HB0 : Hid (Below w.heap.size w (w.alloc (.cells #[.bool n, .int .i64 t, .string ⟨⟨s⟩⟩, .slice A l.length ca] 24))) := (Below.refl _ _).alloc (Nat.le_refl _) _
  clear hrep hS
  go_enter Try.func8, Try.ntmps8
  go_wp2_with fail
  refine (works_any _).mono ?_
  rintro _ w1 ⟨rfl, hb1⟩
  have H1 := Lib.hid (HH.out.below hb1)
  have B1 := Lib.hid (HB0.out.trans (hb1.mono HB0.out.size))
  clear hb1
  obtain ⟨q0, q1, q2, q3⟩ := H1.out.cells
  go_wp2_with fail
  refine (large_any (.mk n t s l) S _ _ 2000 hk H1.out.rep H1.out.low).mono ?_
  rintro _ w2 ⟨rfl, hb2⟩
  have H2 := Lib.hid (H1.out.below hb2)
  have B2 := Lib.hid (B1.out.trans (hb2.mono B1.out.size))
  clear hb2 q0 q1 q2 q3
  by_cases hlarge : (2000 : Int) < (bk (.mk n t s l) : Int)
  · rw [decide_eq_true hlarge]
    clear hlarge
    go_wp2
    go_ret
    exact ⟨rfl, B2.out⟩
  rw [decide_eq_false hlarge]
  obtain ⟨q0, q1, q2, q3⟩ := H2.out.cells
  have HL := Lib.hid hlarge
  clear hlarge
  go_wp2_with fail
  refine (valid_any (.mk n t s l) S _ _ hk H2.out.rep H2.out.low).mono ?_
  rintro _ w3 ⟨rfl, hb3⟩
  have H3 := Lib.hid (H2.out.below hb3)
  have B3 := Lib.hid (B2.out.trans (hb3.mono B2.out.size))
  clear hb3 q0 q1 q2 q3
  cases hz : sz (.mk n t s l) 0 with
  | none =>
    simp only [Option.isSome_none]
    clear hz
    go_wp2
    go_ret
    exact ⟨rfl, B3.out⟩
  | some m =>
    simp only [Option.isSome_some]
    by_cases hby : y = 0
    · have hb0 : ((y : Int) == 0) = true := by simp [hby]
      clear hz hby
      go_wp2
      go_ret
      exact ⟨rfl, B3.out⟩
    have hb0 : ((y : Int) == 0) = false := by simp; omega
    have hby1 : 1 ≤ y := by omega
    have hlen := sz_len _ _ _ hz
    have hm := (sz_some hz).2.2.2.1
    have HZ := Lib.hid hz
    obtain ⟨q0, q1, q2, q3⟩ := H3.out.cells
    clear hz hby
    go_wp2_with fail
    refine (put_ok (.mk n t s l) S _ _ m hk H3.out.rep H3.out.low HZ.out).mono ?_
    rintro _ w4 ⟨rfl, hb4⟩
    have H4 := Lib.hid (H3.out.below hb4)
    have B4 := Lib.hid (B3.out.trans (hb4.mono B3.out.size))
    clear hb4 q0 q1 q2 q3
    generalize hout : wr (.mk n t s l) = out at *
    have HOUT := Lib.hid hout
    have HLEN := Lib.hid hlen
    have hol : out.length ≤ 65536 := by omega
    clear hout hlen
    by_cases hat0 : at_ < 0
    · go_wp2
      go_ret
      exact ⟨rfl, B4.out⟩
    by_cases hat1 : (out.length : Int) ≤ at_
    · go_wp2
      go_ret
      exact ⟨rfl, B4.out⟩
    obtain ⟨i, rfl⟩ := Int.eq_ofNat_of_zero_le (by omega : 0 ≤ at_)
    have hi : i < out.length := by omega
    have hbyt := byte_at out i hi
    generalize hc : out[i] = c at hbyt
    have HC := Lib.hid hc
    clear hc
    have hc8 : c.toNat < 256 := UInt8.toNat_lt c
    obtain ⟨z, hz⟩ : ∃ z : UInt8, z = UInt8.ofNat (c.toNat ^^^ y) := ⟨_, rfl⟩
    have hxl : c.toNat ^^^ y < 256 := Nat.xor_lt_two_pow (n := 8) hc8 hy1
    have hzn : z.toNat = c.toNat ^^^ y := by rw [hz]; exact ofNat_toNat _ hxl
    have hzc : z ≠ c := by
      intro e
      rw [e] at hzn
      have h1 : c.toNat ^^^ c.toNat = c.toNat ^^^ (c.toNat ^^^ y) := by rw [← hzn]
      rw [← Nat.xor_assoc, Nat.xor_self, Nat.zero_xor] at h1
      omega
    have hbx : bits .xor .u8 (c.toNat : Int) (y : Int) = (z.toNat : Int) := by rw [hzn]; exact u8_xor_nat _ _ hc8 hy1
    have hcv : (convert 39 9 (.slice (some ⟨w4.heap.size, 0, none⟩) 1 1)).run Try.prog (w4.alloc (.cells #[.int .u8 (z.toNat : Int)] 5)).drew = .ok (.string ⟨⟨[z]⟩⟩) (w4.alloc (.cells #[.int .u8 (z.toNat : Int)] 5)).drew :=
      run_convert_bytes_back (P := Try.prog) _ 39 9 5 ⟨w4.heap.size, 0, none⟩ 1 [z] Try.underlying39 Try.underlying5 Try.underlying9 (fun j hj => by
        have h0 : j = 0 := by simpa using hj
        subst h0
        exact cell_one_new w4 _ 5 0 _ rfl)
    have HZC := Lib.hid hzc
    have hii : i + 1 ≤ out.length := by omega
    have hi0 : i ≤ out.length := by omega
    clear hz hxl hzn hzc
    have HSTR : Hid ((ByteArray.mk ⟨out⟩).extract 0 i ++ ByteArray.mk ⟨[z]⟩ ++ (ByteArray.mk ⟨out⟩).extract (i + 1) out.length = ⟨⟨out.take i ++ [z] ++ out.drop (i + 1)⟩⟩) := by
      show _ = _
      rw [cut_str, cut_str, app_str, app_str, List.drop_zero, Nat.sub_zero, List.take_of_length_le (l := out.drop (i + 1)) (by simp)]
    have htl : (out.take i ++ [z] ++ out.drop (i + 1)).length = out.length := by simp; omega
    have htne : out.take i ++ [z] ++ out.drop (i + 1) ≠ out := by
      intro e
      have h1 : (out.take i ++ [z] ++ out.drop (i + 1))[i]? = out[i]? := by rw [e]
      rw [List.append_assoc, List.getElem?_append_right (by simp; omega), List.length_take, Nat.min_eq_left hi0, Nat.sub_self] at h1
      rw [List.getElem?_eq_getElem hi, HC.out] at h1
      simp at h1
      exact HZC.out h1
    generalize out.take i ++ [z] ++ out.drop (i + 1) = t2 at *
    have HTL := Lib.hid htl
    have HTN := Lib.hid htne
    have ht2 : t2.length ≤ 65536 := by omega
    clear htl htne
    have H5 : Hid (Hold ((w4.alloc (.cells #[.int .u8 (z.toNat : Int)] 5)).drew) S w.heap.size n t s l A ca) := (H4.out.alloc _).drew
    have B5 : Hid (Below w.heap.size w ((w4.alloc (.cells #[.int .u8 (z.toNat : Int)] 5)).drew)) := (B4.out.alloc B4.out.size _).drew
    go_wp2_with fail
    go_region
    go_wp2_with fail
    rw [HSTR.out]
    cases hg : gt t2 with
    | error x =>
      have hx := gt_err hg
      have hx1 : (x != 0) = true := by simp; omega
      refine (get_err t2 _ x ht2 hg).mono ?_
      rintro _ w6 ⟨rfl, hb6⟩
      have B6 := Lib.hid (B5.out.trans (hb6.mono B5.out.size))
      clear hb6 hg
      go_wp2
      go_ret
      exact ⟨rfl, B6.out.alloc B6.out.size _⟩
    | ok yy =>
      have hwy := (gt_ok hg).1
      have HNE : Hid (eqB (.mk n t s l) yy = false) := eqB_false.2 (fun e => HTN.out (by rw [← hwy, ← e, HOUT.out]))
      refine (get_ok t2 _ yy ht2 hg).mono ?_
      rintro _ w6 ⟨v0, v1, v2, v3, rfl, hry, hb6⟩
      obtain ⟨yn, yt, ys0, yl⟩ := yy
      have hry0 := hry
      obtain ⟨B, cb, hv, _⟩ := rep_mk.1 hry
      injection hv with hv
      simp at hv
      obtain ⟨rfl, rfl, rfl, rfl⟩ := hv
      have B6 := Lib.hid (B5.out.trans (hb6.mono B5.out.size))
      have H6 := Lib.hid (H5.out.below hb6)
      obtain ⟨T, hT⟩ : ∃ T, T = New ((w4.alloc (.cells #[.int .u8 (z.toNat : Int)] 5)).drew).heap.size w6 := ⟨_, rfl⟩
      rw [← hT] at hry0
      have HY6 := Lib.hid (Hold.new hry0 (fun b hb => by rw [hT] at hb; exact hb.2))
      have H7 := Lib.hid (H6.out.alloc (.cells #[.bool yn, .int .i64 yt, .string ⟨⟨ys0⟩⟩, .slice B yl.length cb] 24))
      have B7 := Lib.hid (B6.out.alloc B6.out.size (.cells #[.bool yn, .int .i64 yt, .string ⟨⟨ys0⟩⟩, .slice B yl.length cb] 24))
      obtain ⟨q0, q1, q2, q3⟩ := H6.out.cells
      have hlt6 := H6.out.lt
      clear hb6 hg hry hry0 hT hwy
      go_wp2_with fail
      refine (Same_any (.mk n t s l) (.mk yn yt ys0 yl) _ _ _ _ _ (by have := HL.out; omega) H7.out.rep HY6.out.rep H7.out.low HY6.out.low).mono ?_
      rintro _ w8 ⟨rfl, hb8⟩
      rw [HNE.out]
      have B8 := Lib.hid (B7.out.trans (hb8.mono B7.out.size))
      clear hb8
      go_wp2
      go_ret
      exact ⟨rfl, B8.out⟩
end Go.Proofs.Ytmjpjbnaahdcmaa
