/- New, Knows, Len. (Laid with NS=1.) -/
import Derived.Test.YtiidooponlbnmaaDoorKnW7
import Derived.Carry
namespace Go.Proofs.YtiidooponlbnmaaDoor.Kn
open Go.RowKit
open Te Te.Tt
open Go (Lit DataW MemPlace keyOf maxLen)

set_option maxHeartbeats 1000000 in
set_option maxRecDepth 100000 in
theorem New_any (w : World) : Calls Tryd.prog 10 #[] w fun e w' => ∃ g bk bw, e = .returned (.pointer (some ⟨g, 0, none⟩)) ∧ SR w' (fun i => w.heap.size ≤ i ∧ i < w'.heap.size) g bk bw (fun _ => False) (fun _ => nils) ⟨[], []⟩ ∧ Below w.heap.size w w' := by
  have hmm := @run_makeMap Tryd.prog
  go_enter Tryd.func10, Tryd.ntmps10
  go_wp2
  go_ret
  have hb : Below w.heap.size w (((w.alloc (.map #[] 0)).alloc (.map #[] 0)).alloc (.cells #[.map (some w.heap.size), .map (some (w.heap.size + 1))] 55)) := (((Below.refl _ _).alloc (Nat.le_refl _) _).alloc (by simp) _).alloc (by simp; omega) _
  refine ⟨w.heap.size + 1 + 1, w.heap.size, w.heap.size + 1, rfl, ?_, hb⟩
  have hk := (KMap.new w (fun _ => False)).keep (w' := ((w.alloc (.map #[] 0)).alloc (.map #[] 0)).alloc (.cells #[.map (some w.heap.size), .map (some (w.heap.size + 1))] 55)) (by rw [Below.heap_alloc _ _ _ (by simp; omega), Below.heap_alloc _ _ _ (by simp)]) (fun _ h => h) (fun _ h => h.elim)
  have hw := (WMap.new (w.alloc (.map #[] 0))).keep (w' := ((w.alloc (.map #[] 0)).alloc (.map #[] 0)).alloc (.cells #[.map (some w.heap.size), .map (some (w.heap.size + 1))] 55)) (by rw [Below.heap_alloc _ _ _ (by simp)])
  have hg := heap_alloc_new ((w.alloc (.map #[] 0)).alloc (.map #[] 0)) (.cells #[.map (some w.heap.size), .map (some (w.heap.size + 1))] 55)
  have e1 : (w.alloc (.map #[] 0)).heap.size = w.heap.size + 1 := by simp
  have e2 : ((w.alloc (.map #[] 0)).alloc (.map #[] 0)).heap.size = w.heap.size + 1 + 1 := by simp
  have e3 : (((w.alloc (.map #[] 0)).alloc (.map #[] 0)).alloc (.cells #[.map (some w.heap.size), .map (some (w.heap.size + 1))] 55)).heap.size = w.heap.size + 1 + 1 + 1 := by simp
  rw [e1] at hw
  rw [e2] at hg
  exact ⟨hg, hk, hw, fun k _ => OwnC.nil _ _ _, fun _ h => h.elim, ⟨by rw [e3]; omega, by rw [e3]; omega, by rw [e3]; omega⟩, fun k _ i hi => by simp [Value.ownBlock] at hi, fun k k' _ _ i hi => by simp [Value.ownBlock] at hi, fun i hi => hi.2, by omega, by omega, by omega⟩

set_option maxHeartbeats 1000000 in
set_option maxRecDepth 100000 in
theorem Len_any (w : World) (F : Nat → Prop) (g bk bw : Nat) (T : Nat → Prop) (f : Tm → Value) (s : St) (h : SR w F g bk bw T f s) :
    Calls Tryd.prog 20 #[.pointer (some ⟨g, 0, none⟩)] w fun e w' => e = .returned (.int .i64 (s.kn.length : Nat)) ∧ Below w.heap.size w w' := by
  obtain ⟨c0, c1⟩ := cellG h.st
  obtain ⟨D, hown, h2, h3, h4⟩ := h.km
  have HO := Lib.hid hown
  have H3 := Lib.hid h3
  clear h h2 h3 h4 hown
  go_enter Tryd.func20, Tryd.ntmps20
  go_wp2_with (first | (at_len; refine wpList_len_own _ rfl (.tmp 6) 52 rfl 9 33 Tryd.underlying52 tok bk s.kn.length D rfl HO.out ?_; rw [H3.out]))
  go_ret
  exact ⟨rfl, Below.refl _ _⟩

set_option maxHeartbeats 1000000 in
set_option maxRecDepth 100000 in
theorem Knows_any (w : World) (F : Nat → Prop) (g bk bw : Nat) (T : Nat → Prop) (f : Tm → Value) (s : St) (h : SR w F g bk bw T f s) (htab : TabB w.heap.size w) (x : Tm) (S : Nat → Prop) (v : Value) (hr : Rep w S x v) (hS : ∀ b, S b → b < w.heap.size) (hsz : sz x ≤ 262144) :
    Calls Tryd.prog 16 #[.pointer (some ⟨g, 0, none⟩), v] w fun e w' => e = .returned (.bool (vld 0 x && decide (x ∈ s.kn))) ∧ Below w.heap.size w w' := by
  obtain ⟨b, hb⟩ : ∃ b, b = vld 0 x := ⟨_, rfl⟩
  obtain ⟨z, hz⟩ : ∃ z, z = w.heap.size := ⟨_, rfl⟩
  have HZ := Lib.hid hz
  have HBV := Lib.hid hb
  have HV := Lib.hid fun W h1 h2 => Valid_any x S v W hsz h1 h2
  have HM := Lib.hid fun W h0 h1 h2 h3 => mark_any x 0 S v W h0 (by omega) h1 h2 h3
  have hml := fun h0 => mk_le w S x 0 v h0 hr
  have HML : Hid (vld 0 x = true → (mk x).length ≤ 1000000000000) := fun h0 => by have := hml h0; omega
  have HA := Lib.hid fun W h1 h2 => has_any W F g bk bw T f s (h.below h1) x h2
  have hr0 := hr
  rw [← hb]
  rw [← hb] at HV
  obtain ⟨k, t, n, l⟩ := x
  obtain ⟨A, ca, rfl, hn, hrow⟩ := rep_mk.1 hr
  have hb1 : Below w.heap.size w (w.alloc (.cells #[.int .i64 k, .string ⟨⟨t⟩⟩, .int .i64 n, .slice A l.length ca] 33)) := (Below.refl _ _).alloc (Nat.le_refl _) _
  have hg1 := heap_alloc_new w (.cells #[.int .i64 k, .string ⟨⟨t⟩⟩, .int .i64 n, .slice A l.length ca] 33)
  rw [← hz] at hg1
  have HRT : Hid (∀ W, Below w.heap.size w W → Rep W S (.mk k t n l) (.agg #[.int .i64 k, .string ⟨⟨t⟩⟩, .int .i64 n, .slice A l.length ca]) ∧ (∀ b, S b → b < W.heap.size) ∧ TabB W.heap.size W) := fun W hW => ⟨rep_below hr0 hW hS, fun i hi => Nat.lt_of_lt_of_le (hS i hi) hW.size, TabB.up htab hW⟩
  have HB1 := Lib.hid hb1
  have HG1 := Lib.hid hg1
  have hc := HV.out _ (HRT.out _ hb1).1 (HRT.out _ hb1).2.1
  have HC := Lib.hid hc
  clear h htab hr hr0 hS hsz hb hz hml hrow hb1 hg1 hc
  go_enter Tryd.func16, Tryd.ntmps16
  go_wp2_with fail
  rw [← HZ.out]
  refine HC.out.mono ?_
  rintro _ w2 ⟨rfl, hb2⟩
  have HZ2 := Lib.hid ((hb2.block z (Array.getElem?_eq_some_iff.1 HG1.out).1).trans HG1.out)
  have HB2 := Lib.hid (HB1.out.trans (hb2.mono HB1.out.size))
  clear hb2 HC HG1 HB1
  cases b
  case false =>
    go_wp2
    go_ret
    exact ⟨rfl, HB2.out⟩
  case true =>
    have hm := HM.out w2 HBV.out.symm (HRT.out w2 HB2.out).1 (HRT.out w2 HB2.out).2.1 (HRT.out w2 HB2.out).2.2
    have HMM := Lib.hid hm
    obtain ⟨m, hmm⟩ : ∃ m, m = mk (.mk k t n l) := ⟨_, rfl⟩
    rw [← hmm] at HMM HML HA
    obtain ⟨c0, c1, c2, c3⟩ := cell4 HZ2.out
    clear hm HM hmm
    go_wp2_with fail
    refine HMM.out.mono ?_
    rintro _ w3 ⟨rfl, hb3⟩
    have HB3 := Lib.hid (HB2.out.trans (hb3.mono HB2.out.size))
    have ha := HA.out w3 HB3.out HBV.out.symm (HML.out HBV.out.symm)
    have HA3 := Lib.hid ha
    clear ha hb3 HMM HA c0 c1 c2 c3
    go_wp2_with fail
    refine HA3.out.mono ?_
    rintro _ w4 ⟨rfl, hb4⟩
    have HB4 := Lib.hid (HB3.out.trans (hb4.mono HB3.out.size))
    clear hb4 HA3
    go_wp2
    go_ret
    exact ⟨by simp, HB4.out⟩
end Go.Proofs.YtiidooponlbnmaaDoor.Kn
