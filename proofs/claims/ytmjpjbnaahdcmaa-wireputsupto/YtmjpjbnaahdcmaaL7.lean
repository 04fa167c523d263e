import Derived.Test.YtmjpjbnaahdcmaaL6
import Derived.Deep.RegionWith
namespace Go.Proofs.Ytmjpjbnaahdcmaa
open Go.RowKit
open Wr

def ShapeSaid (x : It) : Prop := ∀ (d : Nat) (di : Int) (S : Nat → Prop) (v : Value) (w : World), di = d → d ≤ 40 → bk x ≤ 2000000 → Rep w S x v → (∀ b, S b → b < w.heap.size) →
  Calls Try.prog 22 #[v, .int .i64 di] w fun e w' => e = .returned (.bool (sh x d)) ∧ Below w.heap.size w w'

set_option maxHeartbeats 2000000 in
set_option maxRecDepth 100000 in
theorem shape_any : ∀ x, ShapeSaid x := It.ind (by
  intro n t s l ih d di S v w hdi hd hk hrep hS
  obtain ⟨A, ca, rfl, hrow⟩ := rep_mk.1 hrep
  have HH := Lib.hid (Hold.new hrep hS)
  have HB0 : Hid (Below w.heap.size w (w.alloc (.cells #[.bool n, .int .i64 t, .string ⟨⟨s⟩⟩, .slice A l.length ca] 24))) := (Below.refl _ _).alloc (Nat.le_refl _) _
  rw [bk] at hk
  have hll := bks_len l
  obtain ⟨R, hR⟩ : ∃ R, R = sh (.mk n t s l) d := ⟨_, rfl⟩
  rw [← hR]
  rw [sh] at hR
  by_cases hc : d > 32 ∨ t < 1 ∨ 127 < t ∨ (n = true ∧ s.length ≠ 0) ∨ (n = false ∧ l.length ≠ 0)
  · rw [if_pos hc] at hR
    have HR := Lib.hid hR
    clear hR hrep hrow hS ih
    by_cases h1 : d > 32
    · have h1' : 32 < di := by omega
      clear hc h1
      go_enter Try.func22, Try.ntmps22
      go_wp2
      go_ret
      exact ⟨by rw [HR.out]; rfl, HB0.out⟩
    have h1' : di ≤ 32 := by omega
    by_cases h2 : t < 1
    · clear hc h1
      go_enter Try.func22, Try.ntmps22
      go_wp2
      go_ret
      exact ⟨by rw [HR.out]; rfl, HB0.out⟩
    have h2' : 1 ≤ t := by omega
    by_cases h3 : 127 < t
    · clear hc h1 h2
      go_enter Try.func22, Try.ntmps22
      go_wp2
      go_ret
      exact ⟨by rw [HR.out]; rfl, HB0.out⟩
    have h3' : t ≤ 127 := by omega
    cases n with
    | true =>
      cases s with
      | nil => simp at hc; omega
      | cons c r =>
        clear hc h1 h2 h3
        go_enter Try.func22, Try.ntmps22
        go_wp2
        go_ret
        exact ⟨by rw [HR.out]; rfl, HB0.out⟩
    | false =>
      have hl0 : 0 < l.length := by
        rcases Nat.eq_zero_or_pos l.length with h | h
        · simp [h] at hc; omega
        · exact h
      have hl0' : (0 : Int) < (l.length : Int) := by omega
      clear hc h1 h2 h3
      go_enter Try.func22, Try.ntmps22
      go_wp2
      go_ret
      exact ⟨by rw [HR.out]; rfl, HB0.out⟩
  · rw [if_neg hc] at hR
    have hcc : 0 ≤ di ∧ di ≤ 32 ∧ 1 ≤ t ∧ t ≤ 127 := by omega
    obtain ⟨hc1, hc2, hc3, hc4⟩ := hcc
    have hd32 : d ≤ 32 := by omega
    have hn2 : (n = true ∧ s = []) ∨ (n = false ∧ l = []) := by
      cases n with
      | true => exact .inl ⟨rfl, List.eq_nil_of_length_eq_zero (by simp at hc; simp [hc])⟩
      | false => exact .inr ⟨rfl, List.eq_nil_of_length_eq_zero (by simp at hc; simp [hc])⟩
    have HR := Lib.hid hR
    have HD := Lib.hid hdi
    have HROW := Lib.hid hrow
    have HS := Lib.hid hS
    have HIH := Lib.hid ih
    clear hR hdi hrow hS ih hrep hc
    rcases hn2 with ⟨rfl, rfl⟩ | ⟨rfl, rfl⟩
    · obtain ⟨W, hW⟩ : ∃ W, W = w.alloc (.cells #[.bool true, .int .i64 t, .string ⟨⟨[]⟩⟩, .slice A l.length ca] 24) := ⟨_, rfl⟩
      have hWs : W.heap.size = w.heap.size + 1 := by rw [hW]; simp
      have HW := Lib.hid hW
      have HWS := Lib.hid hWs
      have HHW : Hid (Hold W S w.heap.size true t [] l A ca) := by rw [hW]; exact HH.out
      have HBW : Hid (Below w.heap.size w W) := by rw [hW]; exact HB0.out
      clear hW hWs
      go_enter Try.func22, Try.ntmps22
      go_wp2
      go_loopw [5] (fun iv wr => ∃ (i : Nat), iv = .int .i64 i ∧ i ≤ l.length ∧ Hid (R = shs (l.drop i) (d + 1)) ∧ Below W.heap.size W wr) (fun iv _ => l.length - (intOf iv).toNat)
      case atStart => exact ⟨0, rfl, by omega, Lib.hid HR.out, by rw [← HW.out]; exact Below.refl _ _⟩
      case round =>
        obtain ⟨i, rfl, hi, HE, hb⟩ := hrel
        have hHr := HHW.out.below hb
        obtain ⟨c0, c1, c2, c3⟩ := hHr.cells
        have hbw : Below w.heap.size w wr := HBW.out.trans (hb.mono (by have := HWS.out; omega))
        have HHR := Lib.hid hHr
        clear hHr
        by_cases hlt : i < l.length
        · have hgi : l[i]? = some l[i] := List.getElem?_eq_getElem hlt
          rcases HROW.out with h | ⟨b, o, rfl, hSb, hreps⟩
          · rw [h] at hlt; simp at hlt
          obtain ⟨v0, v1, v2, v3, d0, d1, d2, d3, hrep⟩ := reps_at l b o i _ hreps hgi
          have hts := shs_drop l (d + 1) i hlt
          have hmem : l[i] ∈ l := List.getElem_mem hlt
          have hbk := bks_mem l _ hmem
          have hih := HIH.out _ hmem
          generalize hxe : l[i] = x at *
          have hrep0 := hrep
          obtain ⟨xn, xt, xs0, xl⟩ := x
          obtain ⟨A', cap', hv, hrow'⟩ := rep_mk.1 hrep
          injection hv with hv
          simp at hv
          obtain ⟨rfl, rfl, rfl, rfl⟩ := hv
          have hbS := HS.out b hSb
          have hq0 := (hbw.cell (p := ⟨b, o + i * 4, none⟩) hbS).trans d0
          have hq1 := (hbw.cell (p := ⟨b, o + i * 4 + 1, none⟩) hbS).trans d1
          have hq2 := (hbw.cell (p := ⟨b, o + i * 4 + 2, none⟩) hbS).trans d2
          have hq3 := (hbw.cell (p := ⟨b, o + i * 4 + 3, none⟩) hbS).trans d3
          have HRW : Hid (Rep wr S (.mk xn xt xs0 xl) (.agg #[.bool xn, .int .i64 xt, .string ⟨⟨xs0⟩⟩, .slice A' xl.length cap'])) := rep_below hrep0 hbw HS.out
          have HSW : Hid (∀ c, S c → c < wr.heap.size) := fun c hc => by have := HS.out c hc; have := hbw.size; omega
          have HTS := Lib.hid hts
          have HIX := Lib.hid hih
          clear d0 d1 d2 d3 hts hih hmem hgi hrep hrep0 hrow' hreps hxe
          go_wp2_with fail
          refine (HIX.out (d + 1) _ S _ _ (by have := HD.out; omega) (by omega) (by omega) HRW.out HSW.out).mono ?_
          rintro _ w1 ⟨rfl, hb1⟩
          have hws := hb.size
          have hE := HE.out
          rw [HTS.out] at hE
          cases hsx : sh (.mk xn xt xs0 xl) (d + 1) with
          | true =>
            rw [hsx, Bool.true_and] at hE
            have HE2 := Lib.hid hE
            clear hE hsx HE
            go_wp2
            exact ⟨⟨i + 1, by go_num, by omega, HE2, hb.trans (hb1.mono hws)⟩, by simp [intOf]; omega⟩
          | false =>
            rw [hsx, Bool.false_and] at hE
            have HE2 := Lib.hid hE
            clear hE hsx HE
            go_wp2
            go_ret
            exact ⟨by rw [HE2.out]; rfl, hbw.trans (hb1.mono hbw.size)⟩
        · have hie : i = l.length := by omega
          have HF : Hid (R = true) := by
            show _ = _
            rw [HE.out, hie, List.drop_length, shs]
          clear hie HE
          go_wp2
          go_ret
          exact ⟨by rw [HF.out]; rfl, hbw⟩
    · have HF : Hid (R = true) := by
        show _ = _
        rw [HR.out, shs]
      clear HR
      go_enter Try.func22, Try.ntmps22
      go_wp2
      go_loopw [5] (fun iv wr => iv = .int .i64 0 ∧ Hold wr S w.heap.size false t s [] A ca ∧ Below w.heap.size w wr) (fun _ _ => 0)
      case atStart => exact ⟨rfl, HH.out, HB0.out⟩
      case round =>
        obtain ⟨rfl, hH, hb⟩ := hrel
        obtain ⟨c0, c1, c2, c3⟩ := hH.cells
        clear hH
        go_wp2
        go_ret
        exact ⟨by rw [HF.out]; rfl, hb⟩)

def WriteRefSaid (x : It) : Prop := ∀ (d : Nat) (S : Nat → Prop) (v : Value) (w : World), sh x d = true → bk x ≤ 100000 → Rep w S x v → (∀ b, S b → b < w.heap.size) →
  Calls Try.prog 21 #[v] w fun e w' => e = .returned (.string ⟨⟨wr x⟩⟩) ∧ Below w.heap.size w w'

theorem run_byteAny (W : World) (g : Nat) (z : UInt8) (h : W.cell? ⟨g, 0, none⟩ = some (.int .u8 (z.toNat : Int))) : (convert 39 9 (.slice (some ⟨g, 0, none⟩) 1 1)).run Try.prog W = .ok (.string ⟨⟨[z]⟩⟩) W :=
  run_convert_bytes_back (P := Try.prog) _ 39 9 5 ⟨g, 0, none⟩ 1 [z] Try.underlying39 Try.underlying5 Try.underlying9 (fun j hj => by
    have h0 : j = 0 := by simpa using hj
    subst h0
    simpa [Addr.add] using h)

set_option maxHeartbeats 2000000 in
set_option maxRecDepth 100000 in
theorem writeRef_any : ∀ x, WriteRefSaid x := It.ind (by
  intro n t s l ih d S v w hsh hk hrep hS
  obtain ⟨A, ca, rfl, hrow⟩ := rep_mk.1 hrep
  obtain ⟨hd, ht1, ht2, hc, hshs⟩ := sh_mk hsh
  have HH := Lib.hid (Hold.new hrep hS)
  have HB0 : Hid (Below w.heap.size w (w.alloc (.cells #[.bool n, .int .i64 t, .string ⟨⟨s⟩⟩, .slice A l.length ca] 24))) := (Below.refl _ _).alloc (Nat.le_refl _) _
  have hwl := wr_bk _ (show bk (.mk n t s l) ≤ 500000 by omega)
  have htb := tb_toNat n t ht1 ht2
  have hw := wr_mk n t s l
  obtain ⟨R, hR⟩ : ∃ R, R = wr (.mk n t s l) := ⟨_, rfl⟩
  rw [← hR] at hw hwl ⊢
  have hbl : (s ++ wrs l).length ≤ 400000 := by rw [hw] at hwl; simp at hwl ⊢; omega
  rcases hc with ⟨rfl, rfl⟩ | ⟨rfl, rfl⟩
  · rw [List.nil_append] at hw hbl
    simp only [if_true] at htb
    have HW := Lib.hid hw
    have hbkl : bks l ≤ 100000 := by rw [bk] at hk; omega
    have hll := bks_len l
    generalize tb true t = z at *
    have hz8 : z.toNat < 256 := UInt8.toNat_lt z
    have hcv := fun W g => run_byteAny W g z
    have hwz : IntKind.u8.wrap (z.toNat : Int) = (z.toNat : Int) := by simp [IntKind.wrap, IntKind.bits, IntKind.signed]; omega
    have htz : t + 128 = (z.toNat : Int) := htb.symm
    have HIH := Lib.hid ih
    have HROW := Lib.hid hrow
    have HS := Lib.hid hS
    have HSHS := Lib.hid hshs
    obtain ⟨W, hW⟩ : ∃ W, W = w.alloc (.cells #[.bool true, .int .i64 t, .string ⟨⟨[]⟩⟩, .slice A l.length ca] 24) := ⟨_, rfl⟩
    have hWs : W.heap.size = w.heap.size + 1 := by rw [hW]; simp
    have HWW := Lib.hid hW
    have HWS := Lib.hid hWs
    have HHW : Hid (Hold W S w.heap.size true t [] l A ca) := by rw [hW]; exact HH.out
    have HBW : Hid (Below w.heap.size w W) := by rw [hW]; exact HB0.out
    clear hW hWs hR hw hrep hrow hS ih hsh hshs hwl htb
    go_enter Try.func21, Try.ntmps21
    go_wp2
    go_loopw [3, 5] (fun sv iv wr => ∃ (i : Nat) (u : List UInt8), sv = .string ⟨⟨u⟩⟩ ∧ iv = .int .i64 i ∧ i ≤ l.length ∧ Hid (u = wrs (l.take i)) ∧ Below W.heap.size W wr) (fun _ iv _ => l.length - (intOf iv).toNat)
    case atStart => exact ⟨0, [], rfl, rfl, by omega, Lib.hid (by simp [wrs_nil]), by rw [← HWW.out]; exact Below.refl _ _⟩
    case round =>
      obtain ⟨i, u, rfl, rfl, hi, HU, hb⟩ := hrel
      have hHr := HHW.out.below hb
      obtain ⟨c0, c1, c2, c3⟩ := hHr.cells
      have hbw : Below w.heap.size w wr := HBW.out.trans (hb.mono (by have := HWS.out; omega))
      have HHR := Lib.hid hHr
      have hbt := wrs_take_le l i
      have hul : u.length ≤ 400000 := by rw [HU.out]; omega
      clear hHr
      by_cases hlt : i < l.length
      · have hgi : l[i]? = some l[i] := List.getElem?_eq_getElem hlt
        rcases HROW.out with h | ⟨b, o, rfl, hSb, hreps⟩
        · rw [h] at hlt; simp at hlt
        obtain ⟨v0, v1, v2, v3, d0, d1, d2, d3, hrep⟩ := reps_at l b o i _ hreps hgi
        have hts := wrs_take_succ l i hlt
        have hmem : l[i] ∈ l := List.getElem_mem hlt
        have hbk := bks_mem l _ hmem
        have hih := HIH.out _ hmem
        have hshx := shs_mem l _ HSHS.out _ hmem
        generalize hxe : l[i] = x at *
        have hxl := wr_bk x (by omega)
        have hrep0 := hrep
        obtain ⟨xn, xt, xs0, xl⟩ := x
        obtain ⟨A', cap', hv, hrow'⟩ := rep_mk.1 hrep
        injection hv with hv
        simp at hv
        obtain ⟨rfl, rfl, rfl, rfl⟩ := hv
        have hbS := HS.out b hSb
        have hq0 := (hbw.cell (p := ⟨b, o + i * 4, none⟩) hbS).trans d0
        have hq1 := (hbw.cell (p := ⟨b, o + i * 4 + 1, none⟩) hbS).trans d1
        have hq2 := (hbw.cell (p := ⟨b, o + i * 4 + 2, none⟩) hbS).trans d2
        have hq3 := (hbw.cell (p := ⟨b, o + i * 4 + 3, none⟩) hbS).trans d3
        have HRW : Hid (Rep wr S (.mk xn xt xs0 xl) (.agg #[.bool xn, .int .i64 xt, .string ⟨⟨xs0⟩⟩, .slice A' xl.length cap'])) := rep_below hrep0 hbw HS.out
        have HSW : Hid (∀ c, S c → c < wr.heap.size) := fun c hc => by have := HS.out c hc; have := hbw.size; omega
        have HTS := Lib.hid hts
        have HIX := Lib.hid hih
        have HSX := Lib.hid hshx
        clear d0 d1 d2 d3 hts hih hmem hgi hrep hrep0 hrow' hreps hxe hshx
        go_wp2_with fail
        refine (HIX.out (d + 1) S _ _ HSX.out (by omega) HRW.out HSW.out).mono ?_
        rintro _ w1 ⟨rfl, hb1⟩
        have hws := hb.size
        generalize Wr.wr (.mk xn xt xs0 xl) = x8 at *
        go_wp2
        rw [app_str]
        exact ⟨⟨i + 1, u ++ x8, rfl, by go_num, by omega, Lib.hid (by rw [HU.out, HTS.out]), hb.trans (hb1.mono hws)⟩, by simp [intOf]; omega⟩
      · have hie : i = l.length := by omega
        have hue : u = wrs l := by rw [HU.out, hie, List.take_length]
        have HWR : Hid (R = z :: (lb u.length ++ u)) := by
          show _ = _
          rw [HW.out, hue]
        have hlb : (lb u.length).length ≤ 3 := by rw [lb_len]; exact dg_cases4 (by omega)
        have HBR := Lib.hid hbw
        clear hie hue HU HW hbw
        go_wp2
        go_region_with (
          (go_at_call 28
           refine (length_any u.length _ _ rfl ?_).mono ?_
           · omega
           rintro _ w1 ⟨rfl, hb1⟩
           obtain ⟨hc, hf⟩ := bcell hb1
           have HB1 : Hid (Below w.heap.size w w1) := by first | exact HBR.out.drew.trans (hb1.mono (by have := HBR.out.size; simp; omega)) | exact (HBR.out.alloc HBR.out.size _).drew.trans (hb1.mono (by have := HBR.out.size; simp; omega))
           clear hb1))
        all_goals
          go_wp2
          go_ret
          refine ⟨by rw [HWR.out, app_str, app_str]; rfl, ?_⟩
          first
          | exact HB1.out
          | exact HB1.out.alloc HB1.out.size _
          | exact (HB1.out.alloc HB1.out.size _).drew
  · rw [wrs_nil, List.append_nil] at hw hbl
    simp only [Bool.false_eq_true, if_false] at htb
    have HW := Lib.hid hw
    generalize tb false t = z at *
    have hz8 : z.toNat < 256 := UInt8.toNat_lt z
    have hcv := fun W g => run_byteAny W g z
    have hwz : IntKind.u8.wrap (z.toNat : Int) = (z.toNat : Int) := by simp [IntKind.wrap, IntKind.bits, IntKind.signed]; omega
    clear hR hw hrep hrow hS ih hsh hshs hwl
    have hlb : (lb s.length).length ≤ 3 := by rw [lb_len]; exact dg_cases4 (by omega)
    obtain rfl : t = (z.toNat : Int) := htb.symm
    clear htb
    go_enter Try.func21, Try.ntmps21
    go_wp2
    go_region_with (
      (go_at_call 28
       refine (length_any s.length _ _ rfl ?_).mono ?_
       · omega
       rintro _ w1 ⟨rfl, hb1⟩
       obtain ⟨hc, hf⟩ := bcell hb1
       have HB1 : Hid (Below w.heap.size w w1) := by first | exact HB0.out.drew.trans (hb1.mono HB0.out.drew.size) | exact (HB0.out.alloc HB0.out.size _).drew.trans (hb1.mono (HB0.out.alloc HB0.out.size _).drew.size)
       clear hb1))
    all_goals
      go_wp2
      go_ret
      refine ⟨by rw [HW.out, app_str, app_str]; rfl, ?_⟩
      first
      | exact HB1.out
      | exact HB1.out.alloc HB1.out.size _
      | exact (HB1.out.alloc HB1.out.size _).drew)
end Go.Proofs.Ytmjpjbnaahdcmaa
