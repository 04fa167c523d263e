import Derived.Test.YtmjpjbnaahdcmaaW12
import Derived.WalkSmall
namespace Go.Proofs.Ytmjpjbnaahdcmaa
open Go.RowKit
open Wr

theorem sz_tag {n : Bool} {t u : Int} {s : List UInt8} {l : List It} {d m : Nat} (h : sz (.mk n t s l) d = some m) (h1 : 1 ≤ u) (h2 : u < 128) : sz (.mk n u s l) d = some m := by
  obtain ⟨hd, ht1, ht2, _, _⟩ := sz_some h
  rw [sz, if_neg (by omega)] at h ⊢
  exact h

mutual
theorem sz_up : ∀ (x : It) (d m : Nat), sz x (d + 1) = some m → sz x d = some m
  | .mk n t s l, d, m, h => by
    obtain ⟨hd, ht1, ht2, hm, hc⟩ := sz_some h
    rw [sz, if_neg (by omega)]
    rcases hc with ⟨rfl, rfl, rfl⟩ | ⟨rfl, rfl, b, hb, rfl⟩
    · simp
      omega
    · have h2 := szs_up l (d + 1) 0 b hb
      simp [h2]
      omega
theorem szs_up : ∀ (l : List It) (d a b : Nat), szs l (d + 1) a = some b → szs l d a = some b
  | [], d, a, b, h => by rw [szs] at h ⊢; exact h
  | x :: r, d, a, b, h => by
    obtain ⟨m, hm, ha, hr⟩ := szs_cons h
    rw [szs, sz_up x d m hm]
    simp only
    rw [if_neg (by omega), szs_up r d _ b hr]
end

theorem cut_one (c : UInt8) (r : List UInt8) (k : Nat) (hk : k = r.length + 1) : (ByteArray.mk ⟨c :: r⟩).extract 1 k = ⟨⟨r⟩⟩ := by
  rw [cut_str, List.drop_succ_cons, List.drop_zero, List.take_of_length_le (by omega)]

/-- How many digits, by comparisons. -/
theorem dg_cases {b : Nat} (h : b ≤ 65536) : (b ≤ 127 ∧ dg b = 1) ∨ (127 < b ∧ b ≤ 16383 ∧ dg b = 2) ∨ (16383 < b ∧ dg b = 3) := by
  by_cases h1 : b < 128
  · exact .inl ⟨by omega, dg_lt' h1⟩
  · by_cases h2 : b / 128 < 128
    · exact .inr (.inl ⟨by omega, by omega, by rw [dg_ge' h1, dg_lt' h2]⟩)
    · exact .inr (.inr ⟨by omega, by rw [dg_ge' h1, dg_ge' h2, dg_lt' (by omega)]⟩)

set_option maxHeartbeats 2000000 in
set_option maxRecDepth 100000 in
theorem wireSizes_walk (n : Bool) (t : Int) (s : List UInt8) (l : List It) (A : Option Addr) (ca : Nat) (tag : Int) (S : Nat → Prop) (w : World) (hrep : Rep w S (.mk n t s l) (.agg #[.bool n, .int .i64 t, .string ⟨⟨s⟩⟩, .slice A l.length ca])) (hS : ∀ b, S b → b < w.heap.size) (hk : bk (.mk n t s l) ≤ 2000000) :
    Calls Try.prog 7 #[.agg #[.bool n, .int .i64 t, .string ⟨⟨s⟩⟩, .slice A l.length ca], .int .i64 tag] w fun e w' => e = .returned (.bool true) ∧ Below w.heap.size w w' := by
  have HH := Lib.hid (Hold.new hrep hS)
  have HB0 : Hid (Below w.heap.size w (w.alloc (.cells #[.bool n, .int .i64 t, .string ⟨⟨s⟩⟩, .slice A l.length ca] 24))) := (Below.refl _ _).alloc (Nat.le_refl _) _
  clear hrep hS
  go_enter Try.func7, Try.ntmps7
  go_wp2_with fail
  refine (works_any _).mono ?_
  rintro _ w1 ⟨rfl, hb1⟩
  have H1 := Lib.hid (HH.out.below hb1)
  have B1 := Lib.hid (HB0.out.trans (hb1.mono HB0.out.size))
  clear hb1
  obtain ⟨q0, q1, q2, q3⟩ := H1.out.cells
  go_wp2_with fail
  refine (large_any (.mk n t s l) S _ _ 2000 hk H1.out.rep H1.out.low).mono ?_
  rintro _ w2 ⟨rfl, hb2⟩
  have H2 := Lib.hid (H1.out.below hb2)
  have B2 := Lib.hid (B1.out.trans (hb2.mono B1.out.size))
  clear hb2 q0 q1 q2 q3
  by_cases hlarge : (2000 : Int) < (bk (.mk n t s l) : Int)
  · rw [decide_eq_true hlarge]
    clear hlarge
    go_wp2
    go_ret
    exact ⟨rfl, B2.out⟩
  rw [decide_eq_false hlarge]
  obtain ⟨q0, q1, q2, q3⟩ := H2.out.cells
  have HL := Lib.hid hlarge
  clear hlarge
  go_wp2_with fail
  refine (valid_any (.mk n t s l) S _ _ hk H2.out.rep H2.out.low).mono ?_
  rintro _ w3 ⟨rfl, hb3⟩
  have H3 := Lib.hid (H2.out.below hb3)
  have B3 := Lib.hid (B2.out.trans (hb3.mono B2.out.size))
  clear hb3 q0 q1 q2 q3
  cases hz : sz (.mk n t s l) 0 with
  | none =>
    simp only [Option.isSome_none]
    clear hz
    go_wp2
    go_ret
    exact ⟨rfl, B3.out⟩
  | some m =>
    simp only [Option.isSome_some]
    by_cases hg1 : tag < 1
    · clear hz
      go_wp2
      go_ret
      exact ⟨rfl, B3.out⟩
    have hg1' : 1 ≤ tag := by omega
    by_cases hg2 : 127 < tag
    · clear hz
      go_wp2
      go_ret
      exact ⟨rfl, B3.out⟩
    have hg2' : tag ≤ 127 := by omega
    obtain ⟨_, ht1, ht2, hm, hcase⟩ := sz_some hz
    have hlen := sz_len _ _ _ hz
    have hzy := sz_tag hz hg1' (by omega)
    have hwx := wr_mk n t s l
    have hwy := wr_mk n tag s l
    have htb := tb_toNat n t ht1 ht2
    have htb2 := tb_toNat n tag hg1' (by omega)
    have hbody : (s ++ wrs l).length ≤ 65536 := by rw [hwx] at hlen; simp at hlen ⊢; omega
    have hmem : ∀ y ∈ l, ∃ m', sz y 0 = some m' := by
      rcases hcase with ⟨_, rfl, _⟩ | ⟨_, _, b, hb, _⟩
      · simp
      · intro y hy
        obtain ⟨m', hm'⟩ := szs_mem l _ _ _ hb y hy
        exact ⟨m', sz_up y 0 m' hm'⟩
    have hsl : s.length ≤ 65536 := by simp at hbody; omega
    have hbkl : bks l ≤ 2000000 := by rw [bk] at hk; omega
    have hll := bks_len l
    rw [hwx] at hlen
    obtain ⟨R, hR⟩ : ∃ R, R = lb (s ++ wrs l).length ++ (s ++ wrs l) := ⟨_, rfl⟩
    rw [← hR] at hwx hwy hlen
    have hRl : R.length = dg (s ++ wrs l).length + (s ++ wrs l).length := by rw [hR, List.length_append, lb_len]
    have HZ := Lib.hid hz
    have HZY := Lib.hid hzy
    have HWX := Lib.hid hwx
    have HWY := Lib.hid hwy
    have HMEM := Lib.hid hmem
    have HTB := Lib.hid htb
    have HTB2 := Lib.hid htb2
    have HRL := Lib.hid hRl
    have hR6 : R.length ≤ 65536 := by simp at hlen; omega
    clear hz hzy hwx hwy hmem htb htb2 hR hRl hcase hlen
    obtain ⟨q0, q1, q2, q3⟩ := H3.out.cells
    go_wp2_with fail
    refine (put_ok (.mk n t s l) S _ _ m hk H3.out.rep H3.out.low HZ.out).mono ?_
    rintro _ w4 ⟨rfl, hb4⟩
    rw [HWX.out]
    have H4 := Lib.hid (H3.out.below hb4)
    have B4 := Lib.hid (B3.out.trans (hb4.mono B3.out.size))
    clear hb4 q0 q1 q2 q3
    obtain ⟨q0, q1, q2, q3⟩ := H4.out.cells
    have HY0 : Hid (Rep w4 S (.mk n tag s l) (.agg #[.bool n, .int .i64 tag, .string ⟨⟨s⟩⟩, .slice A l.length ca])) := by
      obtain ⟨A', c', hv, hrow⟩ := rep_mk.1 H4.out.rep
      injection hv with hv
      simp at hv
      obtain ⟨rfl, rfl⟩ := hv
      exact rep_mk.2 ⟨A, ca, rfl, hrow⟩
    have HY := Lib.hid (Hold.new HY0.out H4.out.low)
    have H5 := Lib.hid (H4.out.alloc (.cells #[.bool n, .int .i64 tag, .string ⟨⟨s⟩⟩, .slice A l.length ca] 24))
    have B5 := Lib.hid (B4.out.alloc B4.out.size (.cells #[.bool n, .int .i64 tag, .string ⟨⟨s⟩⟩, .slice A l.length ca] 24))
    have hky : bk (.mk n tag s l) ≤ 2000000 := by rw [bk] at hk ⊢; omega
    have hlt4 := H4.out.lt
    go_wp2_with fail
    refine (put_ok (.mk n tag s l) S _ _ m hky HY.out.rep HY.out.low HZY.out).mono ?_
    rintro _ w6 ⟨rfl, hb6⟩
    rw [HWY.out]
    have H6 := Lib.hid (H5.out.below hb6)
    have B6 := Lib.hid (B5.out.trans (hb6.mono B5.out.size))
    clear hb6 q0 q1 q2 q3 hlt4
    obtain ⟨q0, q1, q2, q3⟩ := H6.out.cells
    go_wp2
    go_loopw [12, 13] (fun nv iv wr => ∃ (i acc : Nat), nv = .int .i64 acc ∧ iv = .int .i64 i ∧ i ≤ l.length ∧ Hid (acc = s.length + (wrs (l.take i)).length) ∧ Below w6.heap.size w6 wr) (fun _ iv _ => l.length - (intOf iv).toNat)
    case atStart => exact ⟨0, s.length, rfl, rfl, by omega, Lib.hid (by simp [wrs_nil]), Below.refl _ _⟩
    case round =>
      obtain ⟨i, acc, rfl, rfl, hi, HA, hb⟩ := hrel
      clear q0 q1 q2 q3
      have hHr := H6.out.below hb
      have Br := Lib.hid (B6.out.trans (hb.mono B6.out.size))
      obtain ⟨q0, q1, q2, q3⟩ := hHr.cells
      have HHR := Lib.hid hHr
      have hbt := wrs_take_le l i
      have hal : acc ≤ 65536 := by have := HA.out; simp at hbody; omega
      clear hHr
      by_cases hlt : i < l.length
      · have hgi : l[i]? = some l[i] := List.getElem?_eq_getElem hlt
        obtain ⟨A', c', hv, hrow⟩ := rep_mk.1 HHR.out.rep
        injection hv with hv
        simp at hv
        obtain ⟨rfl, rfl⟩ := hv
        rcases hrow with h | ⟨b, o, rfl, hSb, hreps⟩
        · rw [h] at hlt; simp at hlt
        obtain ⟨v0, v1, v2, v3, d0, d1, d2, d3, hrep⟩ := reps_at l b o i _ hreps hgi
        have hts := wrs_take_succ l i hlt
        have hbt1 := wrs_take_le l (i + 1)
        have hmem : l[i] ∈ l := List.getElem_mem hlt
        have hbk := bks_mem l _ hmem
        obtain ⟨m', hm'⟩ := HMEM.out _ hmem
        generalize hxe : l[i] = x at *
        have hlx := sz_len _ _ _ hm'
        have hrep0 := hrep
        obtain ⟨xn, xt, xs0, xl⟩ := x
        obtain ⟨A', cap', hv, hrow'⟩ := rep_mk.1 hrep
        injection hv with hv
        simp at hv
        obtain ⟨rfl, rfl, rfl, rfl⟩ := hv
        have HRW := Lib.hid hrep0
        have HTS := Lib.hid hts
        have HMX := Lib.hid hm'
        have hacc2 : acc + (Wr.wr (.mk xn xt xs0 xl)).length ≤ 65536 := by
          have := HA.out
          rw [hts, List.length_append] at hbt1
          simp at hbody
          omega
        clear hts hm' hmem hgi hrep hrep0 hrow' hreps hxe hlx
        go_wp2_with fail
        refine (put_ok (.mk xn xt xs0 xl) S _ _ m' (by omega) HRW.out HHR.out.low HMX.out).mono ?_
        rintro _ w8 ⟨rfl, hb8⟩
        have hbs := hb.size
        generalize Wr.wr (.mk xn xt xs0 xl) = u at *
        go_wp2
        exact ⟨⟨i + 1, acc + u.length, by go_num, by go_num, by omega, Lib.hid (by rw [HA.out, HTS.out, List.length_append]; omega), hb.trans (hb8.mono hbs)⟩, by simp [intOf]; omega⟩
      · have hie : i = l.length := by omega
        have HF : Hid (acc = (s ++ wrs l).length) := by
          show _ = _
          rw [HA.out, hie, List.take_length, List.length_append]
        clear hie HA
        generalize hbl : (s ++ wrs l).length = bb at *
        have HBL := Lib.hid hbl
        clear hbl
        obtain rfl := HF.out
        have hct : ((tb n tag).toNat : Int) - ((tb n t).toNat : Int) = tag - t := by
          have h1 := HTB.out
          have h2 := HTB2.out
          cases n <;> simp at h1 h2 <;> omega
        generalize tb n t = c at *
        generalize tb n tag = c2 at *
        have hc8 : c.toNat < 256 := UInt8.toNat_lt c
        have hc28 : c2.toNat < 256 := UInt8.toNat_lt c2
        have e1 : (ByteArray.mk ⟨c :: R⟩)[0]'(by show 0 < (c :: R).length; simp) = c := rfl
        have e2 : (ByteArray.mk ⟨c2 :: R⟩)[0]'(by show 0 < (c2 :: R).length; simp) = c2 := rfl
        have e3 := cut_one c R (R.length + 1) rfl
        have e4 := cut_one c2 R (R.length + 1) rfl
        have HCT := Lib.hid hct
        clear hct HTB HTB2
        rcases dg_cases hbody with ⟨hd1, hd2⟩ | ⟨hd0, hd1, hd2⟩ | ⟨hd1, hd2⟩
        all_goals
          have hdd : dg acc ≤ 3 := by omega
          have HRL2 := HRL.out
          rw [hd2] at HRL2
          have HRL3 := Lib.hid HRL2
          clear HRL2 HRL hd2 hdd
        · have hd1' : (acc : Int) ≤ 127 := by omega
          have hb1 : ((R.length : Int) + 1 == 2 + (acc : Int)) = true := by have := HRL3.out; simp; omega
          have hb2 : ((c2.toNat : Int) - (c.toNat : Int) == tag - t) = true := by have := HCT.out; simp; omega
          go_wp2
          go_quiet (fail)
          go_wp2
          go_ret
          exact ⟨rfl, below_drewN Br.out _⟩
        · have hd1' : (127 : Int) < (acc : Int) := by omega
          have hd1'' : (acc : Int) ≤ 16383 := by omega
          have hb1 : ((R.length : Int) + 1 == 3 + (acc : Int)) = true := by have := HRL3.out; simp; omega
          have hb2 : ((c2.toNat : Int) - (c.toNat : Int) == tag - t) = true := by have := HCT.out; simp; omega
          go_wp2
          go_quiet (fail)
          go_wp2
          go_ret
          exact ⟨rfl, below_drewN Br.out _⟩
        · have hd1' : (16383 : Int) < (acc : Int) := by omega
          have hb1 : ((R.length : Int) + 1 == 4 + (acc : Int)) = true := by have := HRL3.out; simp; omega
          have hb2 : ((c2.toNat : Int) - (c.toNat : Int) == tag - t) = true := by have := HCT.out; simp; omega
          go_wp2
          go_quiet (fail)
          go_wp2
          go_ret
          exact ⟨rfl, below_drewN Br.out _⟩
end Go.Proofs.Ytmjpjbnaahdcmaa
