import Derived.Test.YtmjpjbnaahdcmaaL4
import Derived.StillTailTactics
namespace Go.Proofs.Ytmjpjbnaahdcmaa
open Go.RowKit
open Wr

theorem wrs_drop_cons (l : List It) (i : Nat) (h : i < l.length) : wrs (l.drop i) = wr l[i] ++ wrs (l.drop (i + 1)) := by
  rw [List.drop_eq_getElem_cons h, wrs_cons]

theorem wrs_drop_le (l : List It) (i : Nat) : (wrs (l.drop i)).length ≤ (wrs l).length := by
  induction l generalizing i with
  | nil => simp
  | cons x r ih =>
    cases i with
    | zero => simp
    | succ i =>
      simp only [List.drop_succ_cons, wrs_cons, List.length_append]
      have := ih i
      omega

set_option maxHeartbeats 2000000 in
set_option maxRecDepth 100000 in
theorem wireRow_walk (l : List It) (A : Option Addr) (ca : Nat) (tag : Int) (S : Nat → Prop) (w : World) (hrow : Row w S l A) (hS : ∀ b, S b → b < w.heap.size) (hk : bks l ≤ 1500000) :
    Calls Try.prog 6 #[.slice A l.length ca, .int .i64 tag] w fun e w' => e = .returned (.bool true) ∧ Below w.heap.size w w' := by
  have HROW := Lib.hid hrow
  have HS := Lib.hid hS
  have hkn : bk (.mk true tag [] l) ≤ 2000000 := by rw [bk]; simp; omega
  have hll := bks_len l
  clear hrow hS
  go_enter Try.func6, Try.ntmps6
  go_wp2_with fail
  refine (works_any _).mono ?_
  rintro _ w1 ⟨rfl, hb1⟩
  have B1 := Lib.hid hb1
  have HN0 : Hid (Rep w1 S (.mk true tag [] l) (.agg #[.bool true, .int .i64 tag, .string ⟨⟨[]⟩⟩, .slice A l.length ca])) :=
    rep_mk.2 ⟨A, ca, rfl, row_keep (fun _ h => h) (fun c o hc => hb1.cell (p := ⟨c, o, none⟩) (HS.out c hc)) HROW.out⟩
  have H2 := Lib.hid (Hold.new HN0.out (fun b hb => Nat.lt_of_lt_of_le (HS.out b hb) hb1.size))
  have B2 := Lib.hid (B1.out.alloc B1.out.size (.cells #[.bool true, .int .i64 tag, .string ⟨⟨[]⟩⟩, .slice A l.length ca] 24))
  clear hb1
  go_wp2_with fail
  refine (large_any (.mk true tag [] l) S _ _ 2000 hkn H2.out.rep H2.out.low).mono ?_
  rintro _ w3 ⟨rfl, hb3⟩
  have H3 := Lib.hid (H2.out.below hb3)
  have B3 := Lib.hid (B2.out.trans (hb3.mono B2.out.size))
  clear hb3
  by_cases hlarge : (2000 : Int) < (bk (.mk true tag [] l) : Int)
  · rw [decide_eq_true hlarge]
    clear hlarge
    go_wp2
    go_ret
    exact ⟨rfl, B3.out⟩
  rw [decide_eq_false hlarge]
  obtain ⟨q0, q1, q2, q3⟩ := H3.out.cells
  have HL : Hid (bks l ≤ 2000) := by
    show _ ≤ _
    rw [bk] at hlarge
    simp at hlarge
    omega
  clear hlarge
  go_wp2_with fail
  refine (valid_any (.mk true tag [] l) S _ _ hkn H3.out.rep H3.out.low).mono ?_
  rintro _ w4 ⟨rfl, hb4⟩
  have H4 := Lib.hid (H3.out.below hb4)
  have B4 := Lib.hid (B3.out.trans (hb4.mono B3.out.size))
  clear hb4 q0 q1 q2 q3
  cases hz : sz (.mk true tag [] l) 0 with
  | none =>
    simp only [Option.isSome_none]
    clear hz
    go_wp2
    go_ret
    exact ⟨rfl, B4.out⟩
  | some m =>
    simp only [Option.isSome_some]
    obtain ⟨_, ht1, ht2, hm, hcase⟩ := sz_some hz
    have hlen := sz_len _ _ _ hz
    have hwn := wr_mk true tag [] l
    rw [List.nil_append] at hwn
    have hbody : (wrs l).length ≤ 65536 := by rw [hwn] at hlen; simp at hlen; omega
    have hmem : ∀ y ∈ l, ∃ m', sz y 0 = some m' := by
      rcases hcase with ⟨h, _⟩ | ⟨_, _, b, hb, _⟩
      · cases h
      · intro y hy
        obtain ⟨m', hm'⟩ := szs_mem l _ _ _ hb y hy
        exact ⟨m', sz_up y 0 m' hm'⟩
    have HZ := Lib.hid hz
    have HWN := Lib.hid hwn
    have HLEN := Lib.hid hlen
    have HMEM := Lib.hid hmem
    clear hz hwn hlen hmem hcase
    go_wp2
    go_loopw [8, 9] (fun sv iv wr => ∃ (i : Nat) (u : List UInt8), sv = .string ⟨⟨u⟩⟩ ∧ iv = .int .i64 i ∧ i ≤ l.length ∧ Hid (u = wrs (l.take i)) ∧ Below w4.heap.size w4 wr) (fun _ iv _ => l.length - (intOf iv).toNat)
    case atStart => exact ⟨0, [], rfl, rfl, by omega, Lib.hid (by simp [wrs_nil]), Below.refl _ _⟩
    case round =>
      obtain ⟨i, u, rfl, rfl, hi, HU, hb⟩ := hrel
      have hHr := H4.out.below hb
      have Br := Lib.hid (B4.out.trans (hb.mono B4.out.size))
      have HHR := Lib.hid hHr
      have hbt := wrs_take_le l i
      have hul : u.length ≤ 65536 := by rw [HU.out]; omega
      clear hHr
      by_cases hlt : i < l.length
      · have hgi : l[i]? = some l[i] := List.getElem?_eq_getElem hlt
        obtain ⟨A', c', hv, hrow⟩ := rep_mk.1 HHR.out.rep
        injection hv with hv
        simp at hv
        obtain ⟨rfl, rfl⟩ := hv
        rcases hrow with h | ⟨b, o, rfl, hSb, hreps⟩
        · rw [h] at hlt; simp at hlt
        obtain ⟨v0, v1, v2, v3, d0, d1, d2, d3, hrep⟩ := reps_at l b o i _ hreps hgi
        have hts := wrs_take_succ l i hlt
        have hmem : l[i] ∈ l := List.getElem_mem hlt
        have hbk := bks_mem l _ hmem
        obtain ⟨m', hm'⟩ := HMEM.out _ hmem
        generalize hxe : l[i] = x at *
        have hrep0 := hrep
        obtain ⟨xn, xt, xs0, xl⟩ := x
        obtain ⟨A', cap', hv, hrow'⟩ := rep_mk.1 hrep
        injection hv with hv
        simp at hv
        obtain ⟨rfl, rfl, rfl, rfl⟩ := hv
        have HRW := Lib.hid hrep0
        have HTS := Lib.hid hts
        have HMX := Lib.hid hm'
        have hx8 : (Wr.wr (.mk xn xt xs0 xl)).length ≤ 65536 := by
          rw [sz_len _ _ _ hm']
          exact (sz_some hm').2.2.2.1
        clear hts hm' hmem hgi hrep hrep0 hrow' hreps hxe
        go_wp2_with fail
        refine (put_ok (.mk xn xt xs0 xl) S _ _ m' (by omega) HRW.out HHR.out.low HMX.out).mono ?_
        rintro _ w8 ⟨rfl, hb8⟩
        have hbs := hb.size
        generalize Wr.wr (.mk xn xt xs0 xl) = x8 at *
        go_wp2
        rw [app_str]
        exact ⟨⟨i + 1, u ++ x8, rfl, by go_num, by omega, Lib.hid (by rw [HU.out, HTS.out]), hb.trans (hb8.mono hbs)⟩, by simp [intOf]; omega⟩
      · have hie : i = l.length := by omega
        have HF : Hid (u = wrs l) := by
          show _ = _
          rw [HU.out, hie, List.take_length]
        clear hie HU
        go_wp2
        go_loopw [12, 13] (fun sv iv wrr => ∃ (j : Nat) (u : List UInt8), sv = .string ⟨⟨u⟩⟩ ∧ iv = .int .i64 j ∧ j ≤ l.length ∧ Hid (u = wrs (l.drop j)) ∧ Below wr.heap.size wr wrr) (fun _ iv _ => l.length - (intOf iv).toNat)
        case atStart => exact ⟨0, u, rfl, rfl, by omega, Lib.hid HF.out, Below.refl _ _⟩
        case round =>
          obtain ⟨j, u2, rfl, rfl, hj, HU2, hb2⟩ := hrel
          have H5 := Lib.hid (HHR.out.below hb2)
          have B5 := Lib.hid (Br.out.trans (hb2.mono Br.out.size))
          have hbt2 := wrs_drop_le l j
          have hul2 : u2.length ≤ 65536 := by rw [HU2.out]; omega
          by_cases hltj : j < l.length
          · have hgi : l[j]? = some l[j] := List.getElem?_eq_getElem hltj
            obtain ⟨A', c', hv, hrow⟩ := rep_mk.1 H5.out.rep
            injection hv with hv
            simp at hv
            obtain ⟨rfl, rfl⟩ := hv
            rcases hrow with h | ⟨b, o, rfl, hSb, hreps⟩
            · rw [h] at hltj; simp at hltj
            obtain ⟨v0, v1, v2, v3, d0, d1, d2, d3, hrep⟩ := reps_at l b o j _ hreps hgi
            have hts := wrs_drop_cons l j hltj
            have hmem : l[j] ∈ l := List.getElem_mem hltj
            have hbk := bks_mem l _ hmem
            obtain ⟨m', hm'⟩ := HMEM.out _ hmem
            generalize hxe : l[j] = x at *
            have hwp := wr_pos x
            have hlx := sz_len _ _ _ hm'
            have hmx : m' ≤ 65536 := by cases x; exact (sz_some hm').2.2.2.1
            have hrd := rd_wr x 33 0 m' 0 (wrs (l.drop (j + 1))) rfl hm' (by omega)
            rw [← hts, ← HU2.out] at hrd
            have hu2 : u2.length = m' + (wrs (l.drop (j + 1))).length := by rw [HU2.out, hts, List.length_append, hlx]
            have hrep0 := hrep
            obtain ⟨xn, xt, xs0, xl⟩ := x
            obtain ⟨A', cap', hv, hrow'⟩ := rep_mk.1 hrep
            injection hv with hv
            simp at hv
            obtain ⟨rfl, rfl, rfl, rfl⟩ := hv
            have HRW := Lib.hid hrep0
            have HTS := Lib.hid hts
            have HRD := Lib.hid hrd
            have HLX := Lib.hid hlx
            have HU3 := Lib.hid hu2
            have hm2 : 2 ≤ m' := by omega
            have hmu : m' ≤ u2.length := by omega
            have hSb' := H5.out.low b hSb
            clear hts hm' hmem hgi hrep hrep0 hrow' hreps hxe hrd hlx hu2 hwp
            go_wp2_with fail
            refine (first_ok u2 _ (.mk xn xt xs0 xl) m' hul2 HRD.out).mono ?_
            rintro _ w6 ⟨u0, u1, u2', u3, rfl, hry, hb6⟩
            have hry0 := hry
            obtain ⟨B, cb, hv, _⟩ := rep_mk.1 hry
            injection hv with hv
            simp at hv
            obtain ⟨rfl, rfl, rfl, rfl⟩ := hv
            obtain ⟨T, hT⟩ : ∃ T, T = New wr.heap.size w6 := ⟨_, rfl⟩
            rw [← hT] at hry0
            have hT6 : ∀ c, T c → c < w6.heap.size := fun c hc => by rw [hT] at hc; exact hc.2
            have HY := Lib.hid (Hold.new hry0 hT6)
            have B6 := Lib.hid (B5.out.trans (hb6.mono B5.out.size))
            have H6 := Lib.hid (H5.out.below hb6)
            have H7 := Lib.hid (H6.out.alloc (.cells #[.bool xn, .int .i64 xt, .string ⟨⟨xs0⟩⟩, .slice B xl.length cb] 24))
            have B7 := Lib.hid (B6.out.alloc B6.out.size (.cells #[.bool xn, .int .i64 xt, .string ⟨⟨xs0⟩⟩, .slice B xl.length cb] 24))
            have hbig : Below wr.heap.size wr (w6.alloc (.cells #[.bool xn, .int .i64 xt, .string ⟨⟨xs0⟩⟩, .slice B xl.length cb] 24)) := hb6.alloc hb6.size _
            have HX7 := Lib.hid (rep_below HRW.out hbig H5.out.low)
            have HS7 : Hid (∀ c, S c → c < (w6.alloc (.cells #[.bool xn, .int .i64 xt, .string ⟨⟨xs0⟩⟩, .slice B xl.length cb] 24)).heap.size) := H7.out.low
            have e0 := (hb6.cell (p := ⟨b, o + j * 4, none⟩) hSb').trans d0
            have e1 := (hb6.cell (p := ⟨b, o + j * 4 + 1, none⟩) hSb').trans d1
            have e2 := (hb6.cell (p := ⟨b, o + j * 4 + 2, none⟩) hSb').trans d2
            have e3 := (hb6.cell (p := ⟨b, o + j * 4 + 3, none⟩) hSb').trans d3
            have hb6lt : b < w6.heap.size := by have := hb6.size; omega
            have HB26 := Lib.hid (hb2.trans (hbig.mono hb2.size))
            have hjl : (j : Int) < (l.length : Int) := by omega
            have hm2' : decide ((m' : Int) < 2) = false := by simp; omega
            have hm3' : decide (u2.length < m') = false := by simp; omega
            have hm4' : decide ((u2.length : Int) < (m' : Int)) = false := by simp; omega
            clear hry hry0 hT hT6 hbig hb6 d0 d1 d2 d3
            obtain ⟨W8, hW8⟩ : ∃ W8, W8 = (w6.alloc (.cells #[.bool xn, .int .i64 xt, .string ⟨⟨xs0⟩⟩, .slice B xl.length cb] 24)).drew := ⟨_, rfl⟩
            have HY8 : Hid (Hold W8 T w6.heap.size xn xt xs0 xl B cb) := by rw [hW8]; exact HY.out.drew
            have HX8 : Hid (Rep W8 S (.mk xn xt xs0 xl) (.agg #[.bool xn, .int .i64 xt, .string ⟨⟨xs0⟩⟩, .slice A' xl.length cap'])) := by rw [hW8]; exact rep_below HX7.out (Below.refl _ _).drew HS7.out
            have HS8 : Hid (∀ c, S c → c < W8.heap.size) := by rw [hW8]; exact HS7.out
            have B8 : Hid (Below w.heap.size w W8) := by rw [hW8]; exact B7.out.drew
            have hb28 := HB26.out.drew
            rw [← hW8] at hb28
            have HB28 := Lib.hid hb28
            have f0 : W8.cell? ⟨b, o + j * 4, none⟩ = some (.bool xn) := by rw [hW8]; exact (World.cell?_alloc_lt w6 _ _ hb6lt).trans e0
            have f1 : W8.cell? ⟨b, o + j * 4 + 1, none⟩ = some (.int .i64 xt) := by rw [hW8]; exact (World.cell?_alloc_lt w6 _ _ hb6lt).trans e1
            have f2 : W8.cell? ⟨b, o + j * 4 + 2, none⟩ = some (.string ⟨⟨xs0⟩⟩) := by rw [hW8]; exact (World.cell?_alloc_lt w6 _ _ hb6lt).trans e2
            have f3 : W8.cell? ⟨b, o + j * 4 + 3, none⟩ = some (.slice A' xl.length cap') := by rw [hW8]; exact (World.cell?_alloc_lt w6 _ _ hb6lt).trans e3
            obtain ⟨g0, g1, g2, g3⟩ := HY8.out.cells
            have HW8 := Lib.hid hW8
            clear hW8 e0 e1 e2 e3 hb28
            go_wp2_with fail
            refine wp_region_still_tail 18 (by kernel_rfl) (by kernel_rfl) ?_
            change wpStill _ _ (World.drew _) (fun a' => wpList _ _ _ _ a' (World.drew _)) _ _
            rw [← HW8.out]
            simp only [List.take_succ_cons, List.take_zero, List.drop_succ_cons, List.drop_zero]
            repeat still_step
            refine wpStill_nil ?_
            go_wp2_with fail
            refine (Same_any (.mk xn xt xs0 xl) (.mk xn xt xs0 xl) T S _ _ _ (by have := HL.out; omega) HY8.out.rep HX8.out HY8.out.low HS8.out).mono ?_
            rintro _ w9 ⟨rfl, hb9⟩
            rw [eqB_true.2 rfl]
            have B9 := Lib.hid (B8.out.trans (hb9.mono B8.out.size))
            have HB29 := Lib.hid (HB28.out.trans (hb9.mono HB28.out.size))
            clear hb9
            go_wp2
            rw [cut_str, List.take_of_length_le (by simp)]
            refine ⟨⟨j + 1, u2.drop m', rfl, by go_num, by omega, Lib.hid ?_, HB29.out⟩, by simp [intOf]; omega⟩
            rw [HU2.out, HTS.out, ← HLX.out]
            exact List.drop_left
          · have hje : j = l.length := by omega
            have hu2e : u2 = [] := by rw [HU2.out, hje, List.drop_length, wrs_nil]
            subst hu2e
            obtain ⟨q0, q1, q2, q3⟩ := H5.out.cells
            clear hje HU2
            go_wp2_with fail
            refine (put_ok (.mk true tag [] l) S _ _ m hkn H5.out.rep H5.out.low HZ.out).mono ?_
            rintro _ w7 ⟨rfl, hb7⟩
            obtain ⟨wh, hwh⟩ : ∃ wh, wh = Wr.wr (.mk true tag [] l) := ⟨_, rfl⟩
            rw [← hwh]
            have hwl : wh.length ≤ 65536 := by rw [hwh, HLEN.out]; exact hm
            rw [HWN.out, ← HF.out] at hwh
            have hup : u.length + 2 ≤ wh.length := by
              rw [hwh]
              have := dg_pos u.length
              simp [lb_len]
              omega
            have hex : (ByteArray.mk ⟨wh⟩).extract (wh.length - u.length) wh.length = ⟨⟨u⟩⟩ := by
              rw [cut_str, List.take_of_length_le (by simp)]
              congr 2
              have e : wh = (tb true tag :: lb u.length) ++ u := by rw [hwh]; rfl
              have e2 : wh.length - u.length = (tb true tag :: lb u.length).length := by rw [e, List.length_append]; omega
              rw [e2, e]
              exact List.drop_left
            have B7 := Lib.hid (B5.out.trans (hb7.mono B5.out.size))
            have hup2 : (u.length : Int) + 2 ≤ (wh.length : Int) := by omega
            clear hb7 q0 q1 q2 q3 hwh
            go_wp2
            go_ret
            exact ⟨rfl, B7.out⟩
end Go.Proofs.Ytmjpjbnaahdcmaa
