import Derived.Test.YtmjpjbnaahdcmaaW12
namespace Go.Proofs.Ytmjpjbnaahdcmaa
open Go.RowKit
open Wr

theorem dg_three {n : Nat} (h : n < 2097152) : dg n ≤ 3 := by
  by_cases h1 : n < 128
  · rw [dg_lt' h1]; omega
  · rw [dg_ge' h1]
    by_cases h2 : n / 128 < 128
    · rw [dg_lt' h2]; omega
    · rw [dg_ge' h2, dg_lt' (by omega)]; omega

mutual
theorem sz_bk : ∀ (x : It) (d m : Nat), sz x d = some m → m ≤ 4 * bk x
  | .mk n t s l, d, m, h => by
    obtain ⟨_, _, _, hm, h⟩ := sz_some h
    rw [bk]
    rcases h with ⟨_, rfl, rfl⟩ | ⟨_, rfl, b, hb, rfl⟩
    · have := dg_three (n := s.length) (by omega)
      omega
    · have := dg_three (n := b) (by omega)
      have := szs_bk l (d + 1) 0 b hb
      omega
theorem szs_bk : ∀ (l : List It) (d a b : Nat), szs l d a = some b → b ≤ a + 4 * bks l
  | [], d, a, b, h => by rw [szs] at h; injection h with h; omega
  | x :: r, d, a, b, h => by
    obtain ⟨m, hm, _, hr⟩ := szs_cons h
    have := sz_bk x d m hm
    have := szs_bk r d _ b hr
    rw [bks]
    omega
end

theorem gt_wr {x : It} {m : Nat} (h : sz x 0 = some m) : gt (wr x) = .ok x := by
  have hm : m ≤ 65536 := by cases x; exact (sz_some h).2.2.2.1
  have h1 := rd_wr x 33 0 m 0 [] rfl h (by omega)
  rw [List.append_nil] at h1
  unfold gt
  rw [h1]
  simp only
  rw [if_neg (by have := sz_len x 0 m h; omega)]

theorem gt_short {x : It} {m cut : Nat} (h : sz x 0 = some m) (hc : cut < m) : gt ((wr x).take cut) = .error 10 := by
  have hm : m ≤ 65536 := by cases x; exact (sz_some h).2.2.2.1
  unfold gt
  rw [rd_short x 33 0 m 0 cut rfl h (by omega) hc]

set_option maxHeartbeats 2000000 in
set_option maxRecDepth 100000 in
theorem wireBack_walk (n : Bool) (t : Int) (s : List UInt8) (l : List It) (A : Option Addr) (ca : Nat) (rest : List UInt8) (cut : Int) (S : Nat → Prop) (w : World) (hrep : Rep w S (.mk n t s l) (.agg #[.bool n, .int .i64 t, .string ⟨⟨s⟩⟩, .slice A l.length ca])) (hS : ∀ b, S b → b < w.heap.size) (hk : bk (.mk n t s l) ≤ 2000000) (hrl : rest.length ≤ 2000000) :
    Calls Try.prog 4 #[.agg #[.bool n, .int .i64 t, .string ⟨⟨s⟩⟩, .slice A l.length ca], .string ⟨⟨rest⟩⟩, .int .i64 cut] w fun e w' => e = .returned (.bool true) ∧ Below w.heap.size w w' := by
  have HH := Lib.hid (Hold.new hrep hS)
  have HB0 : Hid (Below w.heap.size w (w.alloc (.cells #[.bool n, .int .i64 t, .string ⟨⟨s⟩⟩, .slice A l.length ca] 24))) := (Below.refl _ _).alloc (Nat.le_refl _) _
  clear hrep hS
  go_enter Try.func4, Try.ntmps4
  go_wp2_with fail
  refine (works_any _).mono ?_
  rintro _ w1 ⟨rfl, hb1⟩
  have H1 := Lib.hid (HH.out.below hb1)
  have B1 := Lib.hid (HB0.out.trans (hb1.mono HB0.out.size))
  clear hb1
  obtain ⟨q0, q1, q2, q3⟩ := H1.out.cells
  go_wp2_with fail
  refine (large_any (.mk n t s l) S _ _ 2000 hk H1.out.rep H1.out.low).mono ?_
  rintro _ w2 ⟨rfl, hb2⟩
  have H2 := Lib.hid (H1.out.below hb2)
  have B2 := Lib.hid (B1.out.trans (hb2.mono B1.out.size))
  clear hb2 q0 q1 q2 q3
  by_cases hlarge : (2000 : Int) < (bk (.mk n t s l) : Int)
  · rw [decide_eq_true hlarge]
    clear hlarge
    go_wp2
    go_ret
    exact ⟨rfl, B2.out⟩
  rw [decide_eq_false hlarge]
  have HL := Lib.hid hlarge
  clear hlarge
  by_cases hr2 : (2000 : Int) < (rest.length : Int)
  · go_wp2
    go_ret
    exact ⟨rfl, B2.out⟩
  have hr2' : (rest.length : Int) ≤ 2000 := by omega
  clear hr2
  obtain ⟨q0, q1, q2, q3⟩ := H2.out.cells
  cases hz : sz (.mk n t s l) 0 with
  | none =>
    have HZ := Lib.hid hz
    clear hz
    go_wp2_with fail
    refine (put_err (.mk n t s l) S _ _ hk H2.out.rep H2.out.low HZ.out).mono ?_
    rintro _ w3 ⟨rfl, hb3⟩
    have H3 := Lib.hid (H2.out.below hb3)
    have B3 := Lib.hid (B2.out.trans (hb3.mono B2.out.size))
    clear hb3 q0 q1 q2 q3
    obtain ⟨q0, q1, q2, q3⟩ := H3.out.cells
    go_wp2_with fail
    refine (valid_any (.mk n t s l) S _ _ hk H3.out.rep H3.out.low).mono ?_
    rintro _ w4 ⟨rfl, hb4⟩
    have B4 := Lib.hid (B3.out.trans (hb4.mono B3.out.size))
    rw [HZ.out]
    simp only [Option.isSome_none]
    clear hb4
    go_wp2
    go_ret
    exact ⟨rfl, B4.out⟩
  | some m =>
    have hlen := sz_len _ _ _ hz
    have hm := (sz_some hz).2.2.2.1
    have hm4 : m ≤ 8000 := by have := sz_bk _ _ _ hz; have := HL.out; omega
    have HG := Lib.hid (gt_wr hz)
    have HR := Lib.hid (rd_wr _ 33 0 m 0 rest rfl hz (by omega))
    have HSH : Hid (∀ cut, cut < m → gt ((wr (.mk n t s l)).take cut) = .error 10) := fun cut hc => gt_short hz hc
    have HZ := Lib.hid hz
    clear hz
    go_wp2_with fail
    refine (put_ok (.mk n t s l) S _ _ m hk H2.out.rep H2.out.low HZ.out).mono ?_
    rintro _ w3 ⟨rfl, hb3⟩
    have H3 := Lib.hid (H2.out.below hb3)
    have B3 := Lib.hid (B2.out.trans (hb3.mono B2.out.size))
    clear hb3 q0 q1 q2 q3
    generalize hout : wr (.mk n t s l) = out at *
    have HLEN := Lib.hid hlen
    have hol : out.length ≤ 65536 := by omega
    have hol8 : out.length ≤ 8000 := by omega
    clear hout hlen
    go_wp2_with fail
    refine (get_ok out _ (.mk n t s l) hol HG.out).mono ?_
    rintro _ w4 ⟨v0, v1, v2, v3, rfl, hry, hb4⟩
    have hry0 := hry
    obtain ⟨B, cb, hv, _⟩ := rep_mk.1 hry
    injection hv with hv
    simp at hv
    obtain ⟨rfl, rfl, rfl, rfl⟩ := hv
    have B4 := Lib.hid (B3.out.trans (hb4.mono B3.out.size))
    have H4 := Lib.hid (H3.out.below hb4)
    obtain ⟨T, hT⟩ : ∃ T, T = New w3.heap.size w4 := ⟨_, rfl⟩
    rw [← hT] at hry0
    have HY5 := Lib.hid (Hold.new hry0 (fun b hb => by rw [hT] at hb; exact hb.2))
    have H5 := Lib.hid (H4.out.alloc (.cells #[.bool n, .int .i64 t, .string ⟨⟨s⟩⟩, .slice B l.length cb] 24))
    have B5 := Lib.hid (B4.out.alloc B4.out.size (.cells #[.bool n, .int .i64 t, .string ⟨⟨s⟩⟩, .slice B l.length cb] 24))
    clear hb4 hry hry0 hT
    go_wp2_with fail
    rw [app_str]
    refine (first_ok (out ++ rest) _ (.mk n t s l) m (by rw [List.length_append]; omega) HR.out).mono ?_
    rintro _ w6 ⟨v0, v1, v2, v3, rfl, hry, hb6⟩
    have hry0 := hry
    obtain ⟨C, cc, hv, _⟩ := rep_mk.1 hry
    injection hv with hv
    simp at hv
    obtain ⟨rfl, rfl, rfl, rfl⟩ := hv
    have B6 := Lib.hid (B5.out.trans (hb6.mono B5.out.size))
    have H6 := Lib.hid (H5.out.below hb6)
    have HY6 := Lib.hid (HY5.out.below hb6)
    obtain ⟨U, hU⟩ : ∃ U, U = New (w4.alloc (.cells #[.bool n, .int .i64 t, .string ⟨⟨s⟩⟩, .slice B l.length cb] 24)).heap.size w6 := ⟨_, rfl⟩
    rw [← hU] at hry0
    have HZ7 := Lib.hid (Hold.new hry0 (fun b hb => by rw [hU] at hb; exact hb.2))
    have H7 := Lib.hid (H6.out.alloc (.cells #[.bool n, .int .i64 t, .string ⟨⟨s⟩⟩, .slice C l.length cc] 24))
    have HY7 := Lib.hid (HY6.out.alloc (.cells #[.bool n, .int .i64 t, .string ⟨⟨s⟩⟩, .slice C l.length cc] 24))
    have B7 := Lib.hid (B6.out.alloc B6.out.size (.cells #[.bool n, .int .i64 t, .string ⟨⟨s⟩⟩, .slice C l.length cc] 24))
    obtain ⟨q0, q1, q2, q3⟩ := H6.out.cells
    obtain ⟨p0, p1, p2, p3⟩ := HY6.out.cells
    have hlt6 := H6.out.lt
    have hlt6' := HY6.out.lt
    have hmn : ((m : Int) != (out.length : Int)) = false := by rw [HLEN.out]; simp
    clear hb6 hry hry0 hU
    go_wp2_with fail
    refine (Same_any (.mk n t s l) (.mk n t s l) _ _ _ _ _ (by have := HL.out; omega) H7.out.rep HY7.out.rep H7.out.low HY7.out.low).mono ?_
    rintro _ w8 ⟨rfl, hb8⟩
    rw [eqB_true.2 rfl]
    have B8 := Lib.hid (B7.out.trans (hb8.mono B7.out.size))
    have H8 := Lib.hid (H7.out.below hb8)
    have HZ8 := Lib.hid (HZ7.out.below hb8)
    clear hb8 q0 q1 q2 q3 p0 p1 p2 p3
    obtain ⟨q0, q1, q2, q3⟩ := H8.out.cells
    obtain ⟨p0, p1, p2, p3⟩ := HZ8.out.cells
    go_wp2_with fail
    refine (Same_any (.mk n t s l) (.mk n t s l) _ _ _ _ _ (by have := HL.out; omega) H8.out.rep HZ8.out.rep H8.out.low HZ8.out.low).mono ?_
    rintro _ w9 ⟨rfl, hb9⟩
    rw [eqB_true.2 rfl]
    have B9 := Lib.hid (B8.out.trans (hb9.mono B8.out.size))
    clear hb9 q0 q1 q2 q3 p0 p1 p2 p3
    by_cases hc0 : cut < 0
    · go_wp2
      go_ret
      exact ⟨rfl, B9.out⟩
    by_cases hc1 : (out.length : Int) ≤ cut
    · go_wp2
      go_ret
      exact ⟨rfl, B9.out⟩
    obtain ⟨i, rfl⟩ := Int.eq_ofNat_of_zero_le (by omega : 0 ≤ cut)
    have hi : i < out.length := by omega
    have hi0 : i ≤ out.length := by omega
    go_wp2_with fail
    rw [cut_str, List.drop_zero, Nat.sub_zero]
    refine (get_err (out.take i) _ 10 (by rw [List.length_take]; omega) (HSH.out i (by have := HLEN.out; omega))).mono ?_
    rintro _ w10 ⟨rfl, hb10⟩
    have B10 := Lib.hid (B9.out.trans (hb10.mono B9.out.size))
    clear hb10
    go_wp2
    go_ret
    exact ⟨rfl, B10.out.alloc B10.out.size _⟩
end Go.Proofs.Ytmjpjbnaahdcmaa
