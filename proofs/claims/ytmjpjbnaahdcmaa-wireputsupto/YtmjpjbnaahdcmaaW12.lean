import Derived.Test.YtmjpjbnaahdcmaaW8
import Derived.Test.YtmjpjbnaahdcmaaL1
namespace Go.Proofs.Ytmjpjbnaahdcmaa
open Go.RowKit
open Wr

/-- Block g holds an item. -/
def Hold (w : World) (S : Nat → Prop) (g : Nat) (n : Bool) (t : Int) (s : List UInt8) (l : List It) (A : Option Addr) (ca : Nat) : Prop :=
  w.heap[g]? = some (.cells #[.bool n, .int .i64 t, .string ⟨⟨s⟩⟩, .slice A l.length ca] 24 (0, 0)) ∧ Rep w S (.mk n t s l) (.agg #[.bool n, .int .i64 t, .string ⟨⟨s⟩⟩, .slice A l.length ca]) ∧ ∀ b, S b → b < w.heap.size

section
variable {w w' : World} {S : Nat → Prop} {g : Nat} {n : Bool} {t : Int} {s : List UInt8} {l : List It} {A : Option Addr} {ca : Nat}
theorem Hold.lt (h : Hold w S g n t s l A ca) : g < w.heap.size := (Array.getElem?_eq_some_iff.1 h.1).1
theorem Hold.below (h : Hold w S g n t s l A ca) (hb : Below w.heap.size w w') : Hold w' S g n t s l A ca :=
  ⟨(hb.block g h.lt).trans h.1, rep_below h.2.1 hb h.2.2, fun b hb' => Nat.lt_of_lt_of_le (h.2.2 b hb') hb.size⟩
theorem Hold.alloc (h : Hold w S g n t s l A ca) (o : Obj) : Hold (w.alloc o) S g n t s l A ca := h.below ((Below.refl _ _).alloc (Nat.le_refl _) o)
theorem Hold.drew (h : Hold w S g n t s l A ca) : Hold w.drew S g n t s l A ca := h.below (Below.refl _ _).drew
theorem Hold.new (h : Rep w S (.mk n t s l) (.agg #[.bool n, .int .i64 t, .string ⟨⟨s⟩⟩, .slice A l.length ca])) (hS : ∀ b, S b → b < w.heap.size) :
    Hold (w.alloc (.cells #[.bool n, .int .i64 t, .string ⟨⟨s⟩⟩, .slice A l.length ca] 24)) S w.heap.size n t s l A ca :=
  ⟨heap_alloc_new w _, rep_alloc h _ (fun c hc => ⟨hS c hc, hc⟩), fun b hb => by have := hS b hb; simp; omega⟩
theorem Hold.cells (h : Hold w S g n t s l A ca) : w.cell? ⟨g, 0, none⟩ = some (.bool n) ∧ w.cell? ⟨g, 1, none⟩ = some (.int .i64 t) ∧ w.cell? ⟨g, 2, none⟩ = some (.string ⟨⟨s⟩⟩) ∧ w.cell? ⟨g, 3, none⟩ = some (.slice A l.length ca) := cell4 h.1
theorem Hold.rep (h : Hold w S g n t s l A ca) : Rep w S (.mk n t s l) (.agg #[.bool n, .int .i64 t, .string ⟨⟨s⟩⟩, .slice A l.length ca]) := h.2.1
theorem Hold.low (h : Hold w S g n t s l A ca) : ∀ b, S b → b < w.heap.size := h.2.2
end

theorem bks_take_succ (l : List It) (i : Nat) (h : i < l.length) : bks (l.take (i + 1)) = bks (l.take i) + bk l[i] := by
  induction l generalizing i with
  | nil => simp at h
  | cons x r ih =>
    cases i with
    | zero => simp [bks]
    | succ i =>
      simp only [List.take_succ_cons, bks, List.getElem_cons_succ]
      rw [ih i (by simpa using h)]
      omega

theorem bks_take_le (l : List It) (i : Nat) : bks (l.take i) ≤ bks l := by
  induction l generalizing i with
  | nil => simp
  | cons x r ih =>
    cases i with
    | zero => simp [bks]
    | succ i =>
      simp only [List.take_succ_cons, bks]
      have := ih i
      omega

def RsizeSaid (x : It) : Prop := ∀ (S : Nat → Prop) (v : Value) (w : World), bk x ≤ 2000000 → Rep w S x v → (∀ b, S b → b < w.heap.size) →
  Calls Try.prog 19 #[v] w fun e w' => e = .returned (.int .i64 (bk x)) ∧ Below w.heap.size w w'

set_option maxHeartbeats 1000000 in
set_option maxRecDepth 100000 in
theorem rsize_any : ∀ x, RsizeSaid x := It.ind (by
  intro n t s l ih S v w hk hrep hS
  obtain ⟨A, ca, rfl, hrow⟩ := rep_mk.1 hrep
  have hH := Hold.new hrep hS
  obtain ⟨R, hR⟩ : ∃ R, R = bk (.mk n t s l) := ⟨_, rfl⟩
  rw [← hR]
  rw [← hR] at hk
  rw [bk] at hR
  have HR := Lib.hid hR
  have hsl : s.length ≤ 2000000 := by omega
  have hbl : bks l + s.length + 1 ≤ 2000000 := by omega
  have hll := bks_len l
  obtain ⟨W, hW⟩ : ∃ W, W = w.alloc (.cells #[.bool n, .int .i64 t, .string ⟨⟨s⟩⟩, .slice A l.length ca] 24) := ⟨_, rfl⟩
  rw [← hW] at hH
  have hWs : W.heap.size = w.heap.size + 1 := by rw [hW]; simp
  have hbW : Below w.heap.size w W := by rw [hW]; exact (Below.refl _ _).alloc (Nat.le_refl _) _
  have HW := Lib.hid hW
  have HWS := Lib.hid hWs
  have HH := Lib.hid hH
  have HBW := Lib.hid hbW
  have HIH := Lib.hid ih
  have HROW := Lib.hid hrow
  have HS := Lib.hid hS
  clear hW hWs hbW hH ih hrow hrep hR hS
  go_enter Try.func19, Try.ntmps19
  go_wp2
  go_loopw [3, 4] (fun nv iv wr => ∃ (i acc : Nat), nv = .int .i64 acc ∧ iv = .int .i64 i ∧ i ≤ l.length ∧ Hid (acc = 1 + s.length + bks (l.take i)) ∧ Below W.heap.size W wr) (fun _ iv _ => l.length - (intOf iv).toNat)
  case atStart => exact ⟨0, 1 + s.length, by go_num, rfl, by omega, Lib.hid (by simp [bks]), by rw [← HW.out]; exact Below.refl _ _⟩
  case round =>
    obtain ⟨i, acc, rfl, rfl, hi, HA, hb⟩ := hrel
    have hHr := HH.out.below hb
    obtain ⟨c0, c1, c2, c3⟩ := hHr.cells
    have hbw : Below w.heap.size w wr := HBW.out.trans (hb.mono (by have := HWS.out; omega))
    have hbt := bks_take_le l i
    have hal : acc ≤ 2000000 := by have := HA.out; omega
    have HHR := Lib.hid hHr
    clear hHr
    by_cases hlt : i < l.length
    · have hgi : l[i]? = some l[i] := List.getElem?_eq_getElem hlt
      rcases HROW.out with h | ⟨b, o, rfl, hSb, hreps⟩
      · rw [h] at hlt; simp at hlt
      obtain ⟨v0, v1, v2, v3, d0, d1, d2, d3, hrep⟩ := reps_at l b o i _ hreps hgi
      have hts := bks_take_succ l i hlt
      have hbt1 := bks_take_le l (i + 1)
      have hmem : l[i] ∈ l := List.getElem_mem hlt
      have hbk := bks_mem l _ hmem
      have hih := HIH.out _ hmem
      generalize hxe : l[i] = x at *
      have hrep0 := hrep
      obtain ⟨xn, xt, xs0, xl⟩ := x
      obtain ⟨A', cap', hv, hrow'⟩ := rep_mk.1 hrep
      injection hv with hv
      simp at hv
      obtain ⟨rfl, rfl, rfl, rfl⟩ := hv
      have hbS := HS.out b hSb
      have hq0 := (hbw.cell (p := ⟨b, o + i * 4, none⟩) hbS).trans d0
      have hq1 := (hbw.cell (p := ⟨b, o + i * 4 + 1, none⟩) hbS).trans d1
      have hq2 := (hbw.cell (p := ⟨b, o + i * 4 + 2, none⟩) hbS).trans d2
      have hq3 := (hbw.cell (p := ⟨b, o + i * 4 + 3, none⟩) hbS).trans d3
      have HRW : Hid (Rep wr S (.mk xn xt xs0 xl) _) := rep_below hrep0 hbw HS.out
      have HSW : Hid (∀ c, S c → c < wr.heap.size) := fun c hc => by have := HS.out c hc; have := hbw.size; omega
      have HTS := Lib.hid hts
      have HIX := Lib.hid hih
      clear d0 d1 d2 d3 hts hih hmem hgi hrep hrep0 hrow' hreps hxe
      go_wp2_with fail
      refine (HIX.out S _ _ (by omega) HRW.out HSW.out).mono ?_
      rintro _ w1 ⟨rfl, hb1⟩
      generalize bk (.mk xn xt xs0 xl) = bx at *
      go_wp2
      have hws := hb.size
      exact ⟨⟨i + 1, acc + bx, by go_num, by go_num, by omega, Lib.hid (by rw [HA.out, HTS.out]; omega), hb.trans (hb1.mono hws)⟩, by simp [intOf]; omega⟩
    · have hie : i = l.length := by omega
      have HF : Hid (acc = R) := by
        show _ = _
        rw [HA.out, HR.out, hie, List.take_length]
      clear hie
      go_wp2
      go_ret
      exact ⟨by rw [← HF.out]; rfl, hbw⟩)

set_option maxHeartbeats 1000000 in
set_option maxRecDepth 100000 in
theorem large_any (x : It) (S : Nat → Prop) (v : Value) (w : World) (k : Int) (hk : bk x ≤ 2000000) (hrep : Rep w S x v) (hS : ∀ b, S b → b < w.heap.size) :
    Calls Try.prog 10 #[v, .int .i64 k] w fun e w' => e = .returned (.bool (decide (k < (bk x : Int)))) ∧ Below w.heap.size w w' := by
  obtain ⟨n, t, s, l⟩ := x
  obtain ⟨A, ca, rfl, hrow⟩ := rep_mk.1 hrep
  have HH := Lib.hid (Hold.new hrep hS)
  clear hrep hrow hS
  go_enter Try.func10, Try.ntmps10
  go_wp2_with fail
  refine (rsize_any (.mk n t s l) S _ _ hk HH.out.rep HH.out.low).mono ?_
  rintro _ w1 ⟨rfl, hb1⟩
  go_wp2
  go_ret
  exact ⟨rfl, ((Below.refl _ _).alloc (Nat.le_refl _) _).trans (hb1.mono (by simp))⟩
end Go.Proofs.Ytmjpjbnaahdcmaa
