import Derived.Test.YtmjpjbnaahdcmaaW7
import Derived.Test.YtmjpjbnaahdcmaaPureB
import Derived.Laws.IdiomStrings
namespace Go.Proofs.Ytmjpjbnaahdcmaa
open Go.RowKit
open Wr

theorem grew_trans {base : Nat} {w w1 w2 : World} {v v1 v2 : Value} {k : Nat} {xs : List Value} {l1 l2 : List UInt8}
    (h1 : Grew base w v k xs l1 (.returned v1) w1) (h2 : Grew base w1 v1 (k + l1.length) (xs ++ Lib.byteCells l1) l2 (.returned v2) w2) : Grew base w v k xs (l1 ++ l2) (.returned v2) w2 := by
  obtain ⟨u1, e1, o1, g1, f1⟩ := h1
  obtain ⟨u2, e2, o2, g2, f2⟩ := h2
  injection e1 with e1
  injection e2 with e2
  subst e1 e2
  obtain ⟨h1, h2⟩ := far_trans g1 f1 g2 f2
  refine ⟨v2, rfl, ?_, h1, h2⟩
  rw [Lib.byteCells_append, List.length_append, ← List.append_assoc, ← Nat.add_assoc]
  exact o2

def WriteSaid (x : It) : Prop := ∀ (d m base : Nat) (S : Nat → Prop) (vx : Value) (w : World) (v : Value) (k : Nat) (xs : List Value), sz x d = some m → Rep w S x vx → (∀ b, S b → b < w.heap.size ∧ some b ≠ v.ownBlock) → base ≤ w.heap.size → OwnB w base v k xs → k ≤ 65536 →
  Calls Try.prog 20 #[v, vx] w (Grew base w v k xs (wr x))

theorem box4 {w W w0 : World} {v0 v1 v2 v3 : Value} (hW : W = w.alloc (.cells #[v0, v1, v2, v3] 24)) (hb : Below (w.heap.size + 1) W w0) :
    w0.cell? ⟨w.heap.size, 0, none⟩ = some v0 ∧ w0.cell? ⟨w.heap.size, 1, none⟩ = some v1 ∧ w0.cell? ⟨w.heap.size, 2, none⟩ = some v2 ∧ w0.cell? ⟨w.heap.size, 3, none⟩ = some v3 := by
  have hh : w0.heap[w.heap.size]? = some (.cells #[v0, v1, v2, v3] 24 (0, 0)) := by
    rw [hb.block _ (Nat.lt_succ_self _), hW]
    exact heap_alloc_new w _
  exact ⟨by rw [cell_of_row _ _ _ _ _ _ hh]; rfl, by rw [cell_of_row _ _ _ _ _ _ hh]; rfl, by rw [cell_of_row _ _ _ _ _ _ hh]; rfl, by rw [cell_of_row _ _ _ _ _ _ hh]; rfl⟩

/-- What holds at the head of write's loop. -/
def WrRel (s : List UInt8) (l : List It) (B : Nat) (W : World) (bv iv : Value) (wr' : World) : Prop :=
  ∃ (i nb g cap : Nat) (bs : List UInt8), bv = .slice (some ⟨g, 0, none⟩) nb cap ∧ iv = .int .i64 i ∧ i ≤ l.length ∧ bs = s ++ wrs (l.take i) ∧ nb = bs.length ∧ OwnB wr' B bv nb (Lib.byteCells bs) ∧ Below B W wr'

set_option maxHeartbeats 2000000 in
set_option maxRecDepth 100000 in
theorem write_any : ∀ x, WriteSaid x := It.ind (by
  intro n t s l ih d m base S vx w v k xs hz hrep hS hbase hown hk
  obtain ⟨A, cap, rfl, hrow⟩ := rep_mk.1 hrep
  obtain ⟨hd, ht1, ht2, hm, hcase⟩ := sz_some hz
  have hlen := sz_len _ _ _ hz
  rw [wr_mk] at hlen
  have hbody : (s ++ wrs l).length ≤ 65536 := by simp at hlen ⊢; omega
  have hsl : s.length ≤ 65536 := by simp at hbody; omega
  have hmem : ∀ y ∈ l, ∃ m', sz y (d + 1) = some m' := by
    rcases hcase with ⟨_, rfl, _⟩ | ⟨_, _, b, hb, _⟩
    · simp
    · exact szs_mem l _ _ _ hb
  have hll : l.length ≤ 65536 := by
    have h2 : ∀ l : List It, l.length ≤ (wrs l).length := by
      intro l
      induction l with
      | nil => simp
      | cons x r ih => have := wr_pos x; rw [wrs_cons]; simp; omega
    have := h2 l
    simp at hbody
    omega
  obtain ⟨out, hout⟩ : ∃ out, out = wr (.mk n t s l) := ⟨_, rfl⟩
  rw [← hout]
  rw [wr_mk] at hout
  have HOUT := Lib.hid hout
  have HMEM := Lib.hid hmem
  have HIH := Lib.hid ih
  have HROW := Lib.hid hrow
  have HS := Lib.hid hS
  have HOWN := Lib.hid hown
  clear hout hmem ih hrow hS hown hrep hz hlen hcase
  obtain ⟨W, hW⟩ : ∃ W, W = w.alloc (.cells #[.bool n, .int .i64 t, .string ⟨⟨s⟩⟩, .slice A l.length cap] 24) := ⟨_, rfl⟩
  obtain ⟨bv, w0, hrun, hob, hb0, hbb⟩ := run_bytesB W s (by omega)
  have hWs : W.heap.size = w.heap.size + 1 := by rw [hW]; simp
  rw [hWs] at hob hb0 hbb
  rw [hW] at hrun
  have HW := Lib.hid hW
  have HWS := Lib.hid hWs
  have HOB := Lib.hid hob
  have HBB := Lib.hid hbb
  clear hW hWs hob hbb
  obtain ⟨c0, c1, c2, c3⟩ := box4 HW.out hb0
  go_enter Try.func20, Try.ntmps20
  go_wp2
  go_loopw [5, 14] (fun bv iv wr' => WrRel s l (w.heap.size + 1) W bv iv wr') (fun _ iv _ => l.length - (intOf iv).toNat)
  case atStart =>
    have hob := HOB.out
    rcases hob.2 with ⟨h, _⟩ | ⟨g, cp, cur, fr, e, _⟩
    · have := HBB.out
      rw [h] at this
      simp [Value.ownBlock] at this
    · exact ⟨0, s.length, g, cp, s, e, rfl, by omega, by simp [wrs_nil], rfl, hob, hb0⟩
  case round =>
    obtain ⟨i, nb, g, cp, bs, rfl, rfl, hi, hbs, hnb, hob, hbw⟩ := hrel
    clear hrun hb0 c0 c1 c2 c3 HOB HBB
    have hbw0 : Below w.heap.size w wr := by
      have h1 : Below w.heap.size w W := by rw [HW.out]; exact (Below.refl _ _).alloc (Nat.le_refl _) _
      exact h1.trans (hbw.mono (Nat.le_succ _))
    have hwsz : w.heap.size + 1 ≤ wr.heap.size := by have := hbw.size; have := HWS.out; omega
    by_cases hlt : i < l.length
    · have hgi : l[i]? = some l[i] := List.getElem?_eq_getElem hlt
      rcases HROW.out with h | ⟨b, o, rfl, hSb, hreps⟩
      · rw [h] at hlt; simp at hlt
      obtain ⟨v0, v1, v2, v3, c0, c1, c2, c3, hrep⟩ := reps_at l b o i _ hreps hgi
      have hts := wrs_take_succ l i hlt
      have htl := wrs_take_le l (i + 1)
      have hmemi : l[i] ∈ l := List.getElem_mem hlt
      obtain ⟨m', hm'⟩ := HMEM.out _ hmemi
      have hih := HIH.out _ hmemi
      generalize hxe : l[i] = x at *
      have hxp := wr_pos x
      have hrep0 := hrep
      obtain ⟨xn, xt, xs0, xl⟩ := x
      obtain ⟨A', cap', hv, hrow'⟩ := rep_mk.1 hrep
      injection hv with hv
      simp at hv
      obtain ⟨rfl, rfl, rfl, rfl⟩ := hv
      have hbS := (HS.out b hSb).1
      have hq0 := (hbw0.cell (p := ⟨b, o + i * 4, none⟩) hbS).trans c0
      have hq1 := (hbw0.cell (p := ⟨b, o + i * 4 + 1, none⟩) hbS).trans c1
      have hq2 := (hbw0.cell (p := ⟨b, o + i * 4 + 2, none⟩) hbS).trans c2
      have hq3 := (hbw0.cell (p := ⟨b, o + i * 4 + 3, none⟩) hbS).trans c3
      have HRW : Hid (Rep (wr.alloc (.cells #[.bool xn, .int .i64 xt, .string ⟨⟨xs0⟩⟩, .slice A' xl.length cap'] 24)) S (.mk xn xt xs0 xl) (.agg #[.bool xn, .int .i64 xt, .string ⟨⟨xs0⟩⟩, .slice A' xl.length cap'])) :=
        rep_alloc (S := S) (rep_keep (fun _ h => h) (fun c o hc => hbw0.cell (p := ⟨c, o, none⟩) (HS.out c hc).1) _ _ hrep0) _ (fun c hc => ⟨by have := (HS.out c hc).1; omega, hc⟩)
      have HSW : Hid (∀ c, S c → c < (wr.alloc (.cells #[.bool xn, .int .i64 xt, .string ⟨⟨xs0⟩⟩, .slice A' xl.length cap'] 24)).heap.size ∧ some c ≠ (Value.slice (some ⟨g, 0, none⟩) nb cp).ownBlock) := fun c hc => by
        have := (HS.out c hc).1
        have hgl := hob.lt g rfl
        refine ⟨by simp; omega, fun e => ?_⟩
        simp [Value.ownBlock] at e
        omega
      have HOA : Hid (OwnB (wr.alloc (.cells #[.bool xn, .int .i64 xt, .string ⟨⟨xs0⟩⟩, .slice A' xl.length cap'] 24)) (w.heap.size + 1) (.slice (some ⟨g, 0, none⟩) nb cp) nb (Lib.byteCells bs)) := hob.alloc _
      have hnbl : nb ≤ 65536 := by
        rw [hnb, hbs]
        have := wrs_take_le l i
        simp at hbody ⊢
        omega
      have HNB := Lib.hid hnb
      have HBS := Lib.hid hbs
      have HTS := Lib.hid hts
      have HIX := Lib.hid hih
      have HMX := Lib.hid hm'
      have HOBB := Lib.hid hob
      clear c0 c1 c2 c3 hnb hbs hts hih hm' hmemi hgi hrep hrep0 hrow' hreps hob hxe
      go_wp2_with fail
      refine (HIX.out (d + 1) m' (w.heap.size + 1) S _ _ _ nb (Lib.byteCells bs) HMX.out HRW.out HSW.out (by simp; omega) HOA.out hnbl).mono ?_
      rintro _ w1 ⟨v1, rfl, hown1, hg1, hf1⟩
      go_wp2
      refine ⟨?_, by simp [intOf]; omega⟩
      obtain ⟨g', cp', rfl⟩ := hown1.form (by omega)
      refine ⟨i + 1, nb + (Wr.wr (.mk xn xt xs0 xl)).length, g', cp', bs ++ Wr.wr (.mk xn xt xs0 xl), rfl, by go_num, by omega, ?_, ?_, ?_, ?_⟩
      · rw [HBS.out, HTS.out, List.append_assoc]
      · rw [HNB.out, List.length_append]
      · rw [Lib.byteCells_append]; exact hown1
      · refine (hbw.alloc (by omega) _).grown hg1 (by simp; omega) ?_
        intro k' hk'
        have := HOBB.out.lt k' hk'
        omega
    · have hie : i = l.length := by omega
      subst hie
      rw [List.take_length] at hbs
      obtain ⟨c0, c1, c2, c3⟩ := box4 HW.out hbw
      have HBS := Lib.hid hbs
      have HNB := Lib.hid hnb
      have hnbl : nb ≤ 65536 := by rw [hnb, hbs]; exact hbody
      have HOBB := Lib.hid hob
      clear hbs hnb hob
      have hob := HOBB.out
      have hgl := hob.lt g rfl
      have hownw : OwnB wr base v k xs := HOWN.out.kept (grown_of_below hbw0 none) (by cases h : v.ownBlock <;> simp)
      have hvl : ∀ k', v.ownBlock = some k' → k' < w.heap.size := fun k' hk' => (HOWN.out.lt k' hk').2
      have HVL := Lib.hid hvl
      have HOW := Lib.hid hownw
      clear hob hownw hvl
      go_wp2_with fail
      refine (tagByte_any n t ⟨⟨s⟩⟩ _ _ ht1 ht2).mono ?_
      rintro _ w2 ⟨rfl, hb2⟩
      have hg02 : w.grownBy w2 v.ownBlock := grown_of_below (hbw0.trans (hb2.mono hbw0.size)) _
      have HO2 := own_one (t := 5) (u := .int .u8 ((tb n t).toNat : Int)) (HOW.out.kept (grown_of_below hb2 none) (by cases h : v.ownBlock <;> simp))
      have HG02 := Lib.hid hg02
      have HOB2 : Hid (OwnB w2 (w.heap.size + 1) (.slice (some ⟨g, 0, none⟩) nb cp) nb (Lib.byteCells bs)) := HOBB.out.kept (grown_of_below hb2 none) (by simp [Value.ownBlock])
      have hw2 : wr.heap.size ≤ w2.heap.size := hb2.size
      clear hg02 hb2
      go_wp2_with (
        first
        | (at_builtin
           go_must (
            refine wpList_appendB _ rfl (.tmp 22) (.tmp 25) rfl base v k xs rfl HO2.out ⟨w2.heap.size, 0, none⟩ 1 1 [.int .u8 ((tb n t).toNat : Int)] rfl rfl (cell_one_new _ _ _) (by simp [Value.oneCell']) (by omega) (by simp; omega) ?_
            intro v3 w3 hown3 hg3 hat3
            have HG3 := Lib.hid hg3
            have HAT3 := Lib.hid hat3
            have HGR3 : Hid (Grew base w v k xs ([] ++ [tb n t]) (.returned v3) w3) := grew_one rfl rfl (by simp [Lib.byteCells]) HG02.out (.inl rfl) hown3 hg3 hat3
            have hw3 : w2.heap.size + 1 ≤ w3.heap.size := by have := hg3.size; simpa using this
            clear hown3 hg3 hat3))
        | fail)
      obtain ⟨u3, hu3, hown3, hg03, hf03⟩ := HGR3.out
      injection hu3 with hu3
      subst hu3
      simp only [List.nil_append, List.length_singleton] at hown3
      have HOB3 : Hid (OwnB w3 (w.heap.size + 1) (.slice (some ⟨g, 0, none⟩) nb cp) nb (Lib.byteCells bs)) := (HOB2.out.alloc _).kept HG3.out (.inr (fun e => by
        have := HVL.out g e.symm
        omega))
      have HO3 := Lib.hid hown3
      have hne3 : some g ≠ v3.ownBlock := by
        intro e
        rcases HAT3.out with h | h
        · rw [h] at e
          have := HVL.out g e.symm
          omega
        · rw [h] at e
          injection e with e
          simp at e
          omega
      have HNE3 := Lib.hid hne3
      have hbs3 : base ≤ w3.heap.size := by omega
      clear hown3 hg03 hf03 hne3
      refine (writeLength_any nb _ base _ v3 (k + 1) _ rfl (by omega) (by omega) hbs3 HO3.out).mono ?_
      rintro _ w4 hgr4
      obtain ⟨v4, rfl, hown4, hg4, hf4⟩ := hgr4
      have HGR4 : Hid (Grew base w v k xs ([] ++ [tb n t] ++ lb nb) (.returned v4) w4) := grew_trans HGR3.out ⟨v4, rfl, hown4, hg4, hf4⟩
      have HOB4 : Hid (OwnB w4 (w.heap.size + 1) (.slice (some ⟨g, 0, none⟩) nb cp) nb (Lib.byteCells bs)) := HOB3.out.kept hg4 (.inr HNE3.out)
      have HO4 := Lib.hid hown4
      have hdg : (lb nb).length ≤ 65537 := by
        rw [lb_len]
        have := dg_le nb
        omega
      have hbs4 : base ≤ w4.heap.size := by have := hg4.size; omega
      clear hown4 hg4 hf4
      go_wp2_with (
        first
        | (at_builtin
           go_must (
            refine wpList_appendB _ rfl (.tmp 31) (.tmp 32) rfl base v4 (k + 1 + (lb nb).length) _ rfl HO4.out ⟨g, 0, none⟩ nb cp (Lib.byteCells bs) rfl HOB4.out.1 (HOB4.out.cells (g := g) rfl) (Lib.byteCells_one bs) (by omega) hbs4 ?_
            intro v5 w5 hown5 hg5 hat5
            have HG5 := Lib.hid hg5
            have HAT5 := Lib.hid hat5
            have HO5 := Lib.hid hown5
            clear hown5 hg5 hat5))
        | fail)
      go_ret
      obtain ⟨u4, hu4, _, hg04, hf04⟩ := HGR4.out
      injection hu4 with hu4
      subst hu4
      have hf5 : Far w4 v4 v5 := by
        rcases HAT5.out with h | h
        · exact .inl h
        · exact .inr ⟨_, h, Nat.le_refl _⟩
      obtain ⟨hA, hB⟩ := far_trans hg04 hf04 HG5.out hf5
      refine ⟨v5, rfl, ?_, hA, hB⟩
      have hO5 := HO5.out
      rw [HOUT.out, ← HBS.out, ← HNB.out]
      have e1 : k + (tb n t :: (lb nb ++ bs)).length = k + 1 + (lb nb).length + nb := by
        rw [HNB.out]; simp; omega
      have e2 : Lib.byteCells (tb n t :: (lb nb ++ bs)) = Lib.byteCells [tb n t] ++ Lib.byteCells (lb nb) ++ Lib.byteCells bs := by
        rw [← Lib.byteCells_append, ← Lib.byteCells_append]; simp
      rw [e1, e2]
      simpa [List.append_assoc] using hO5)

set_option maxHeartbeats 1000000 in
set_option maxRecDepth 100000 in
theorem put_err (x : It) (S : Nat → Prop) (v : Value) (w : World) (hk : bk x ≤ 2000000) (hrep : Rep w S x v) (hS : ∀ b, S b → b < w.heap.size) (hz : sz x 0 = none) :
    Calls Try.prog 11 #[v] w fun e w' => e = .returned (.tuple #[.string ⟨⟨[]⟩⟩, .int .i64 1]) ∧ Below w.heap.size w w' := by
  obtain ⟨n, t, s, l⟩ := x
  have hrep0 := hrep
  obtain ⟨A, cap, rfl, hrow⟩ := rep_mk.1 hrep
  have HR : Hid (Rep (w.alloc (.cells #[.bool n, .int .i64 t, .string ⟨⟨s⟩⟩, .slice A l.length cap] 24)) S (.mk n t s l) (.agg #[.bool n, .int .i64 t, .string ⟨⟨s⟩⟩, .slice A l.length cap])) := rep_alloc hrep0 _ (fun c hc => ⟨hS c hc, hc⟩)
  have HS : Hid (∀ b, S b → b < (w.alloc (.cells #[.bool n, .int .i64 t, .string ⟨⟨s⟩⟩, .slice A l.length cap] 24)).heap.size) := fun b hb => by have := hS b hb; simp; omega
  have HZ := Lib.hid hz
  clear hrep hrep0 hrow hS hz
  go_enter Try.func11, Try.ntmps11
  go_wp2_with fail
  refine (valid_any (.mk n t s l) S _ _ hk HR.out HS.out).mono ?_
  rintro _ w1 ⟨rfl, hb1⟩
  rw [HZ.out]
  simp only [Option.isSome_none]
  go_wp2
  go_ret2
  exact ⟨rfl, ((Below.refl _ _).alloc (Nat.le_refl _) _).trans (hb1.mono (by simp))⟩

set_option maxHeartbeats 1000000 in
set_option maxRecDepth 100000 in
theorem put_ok (x : It) (S : Nat → Prop) (v : Value) (w : World) (m : Nat) (hk : bk x ≤ 2000000) (hrep : Rep w S x v) (hS : ∀ b, S b → b < w.heap.size) (hz : sz x 0 = some m) :
    Calls Try.prog 11 #[v] w fun e w' => e = .returned (.tuple #[.string ⟨⟨wr x⟩⟩, .int .i64 0]) ∧ Below w.heap.size w w' := by
  obtain ⟨n, t, s, l⟩ := x
  have hrep0 := hrep
  obtain ⟨A, cap, rfl, hrow⟩ := rep_mk.1 hrep
  have HR : Hid (Rep (w.alloc (.cells #[.bool n, .int .i64 t, .string ⟨⟨s⟩⟩, .slice A l.length cap] 24)) S (.mk n t s l) (.agg #[.bool n, .int .i64 t, .string ⟨⟨s⟩⟩, .slice A l.length cap])) := rep_alloc hrep0 _ (fun c hc => ⟨hS c hc, hc⟩)
  have HS : Hid (∀ b, S b → b < (w.alloc (.cells #[.bool n, .int .i64 t, .string ⟨⟨s⟩⟩, .slice A l.length cap] 24)).heap.size) := fun b hb => by have := hS b hb; simp; omega
  have HZ := Lib.hid hz
  have hpos := wr_pos (.mk n t s l)
  obtain ⟨out, hout⟩ : ∃ out, out = wr (.mk n t s l) := ⟨_, rfl⟩
  rw [← hout] at hpos ⊢
  have HO := Lib.hid hout
  clear hrep hrep0 hrow hS hz hout
  go_enter Try.func11, Try.ntmps11
  go_wp2_with fail
  refine (valid_any (.mk n t s l) S _ _ hk HR.out HS.out).mono ?_
  rintro _ w1 ⟨rfl, hb1⟩
  rw [HZ.out]
  simp only [Option.isSome_some]
  obtain ⟨c0, c1, c2, c3⟩ := box4 (w0 := w1) (w := w) rfl (by simpa using hb1)
  have hsz := hb1.size
  simp at hsz
  have HRW : Hid (Rep w1 S (.mk n t s l) (.agg #[.bool n, .int .i64 t, .string ⟨⟨s⟩⟩, .slice A l.length cap])) :=
    rep_keep (fun _ h => h) (fun c o hc => hb1.cell (p := ⟨c, o, none⟩) (HS.out c hc)) _ _ HR.out
  have HSW : Hid (∀ b, S b → b < w1.heap.size ∧ some b ≠ (Value.slice none 0 0).ownBlock) := fun b hb => ⟨by have := HS.out b hb; have := hb1.size; omega, by simp [Value.ownBlock]⟩
  have hbel : Below w.heap.size w w1 := ((Below.refl _ _).alloc (Nat.le_refl _) _).trans (hb1.mono (by simp))
  clear hb1
  go_wp2_with fail
  refine (write_any (.mk n t s l) 0 m w1.heap.size S _ _ (.slice none 0 0) 0 [] HZ.out HRW.out HSW.out (Nat.le_refl _) (OwnB.nil _ _) (by omega)).mono ?_
  rintro _ w2 ⟨v2, rfl, hown2, hg2, hf2⟩
  rw [← HO.out] at hown2
  simp only [Nat.zero_add, List.nil_append] at hown2
  obtain ⟨g, cp, rfl⟩ := hown2.form (by omega)
  have hcv : (convert 39 9 (.slice (some ⟨g, 0, none⟩) out.length cp)).run Try.prog w2 = .ok (.string ⟨⟨out⟩⟩) w2 :=
    run_convert_bytes_back (P := Try.prog) w2 39 9 5 ⟨g, 0, none⟩ cp out Try.underlying39 Try.underlying5 Try.underlying9 (fun j hj => hown2.cells (g := g) rfl j _ (by simp [Lib.byteCells, hj]))
  have hb2 : Below w.heap.size w w2 := hbel.trans (Below.grown (Below.refl _ _) hg2 (by omega) (by simp [Value.ownBlock]))
  clear hown2 hg2 hf2 hbel
  go_wp2
  go_ret2
  exact ⟨rfl, hb2⟩
end Go.Proofs.Ytmjpjbnaahdcmaa
