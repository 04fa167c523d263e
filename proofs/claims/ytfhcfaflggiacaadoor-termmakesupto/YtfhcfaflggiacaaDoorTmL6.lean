/- TermMakes. -/
import Derived.Test.YtfhcfaflggiacaaDoorTmV7
import Derived.Test.YtfhcfaflggiacaaDoorTmV1
import Derived.Lib.QuietBelow
namespace Go.Proofs.YtfhcfaflggiacaaDoor
open Go.RowKit
open Tt

theorem srow_two {W : World} {h : Nat} {s : List UInt8} (hh : W.heap[h]? = some (.cells #[.string ⟨⟨s⟩⟩, .string ⟨⟨s⟩⟩] 9 (0, 0))) : SRow W [s, s] (some ⟨h, 0, none⟩) := by
  refine .inr ⟨h, 0, rfl, (Array.getElem?_eq_some_iff.1 hh).1, fun i hi => ?_⟩
  rw [Nat.zero_add, cell_of_row _ _ _ _ _ _ hh]
  match i, hi with
  | 0, _ => rfl
  | 1, _ => rfl

set_option maxHeartbeats 4000000 in
set_option maxRecDepth 100000 in
theorem termMakes_walk (s : List UInt8) (a : Int) (l : List Tm) (A : Option Addr) (c : Nat) (use : Int) (w : World) (hai : InR a) (hui : InR use) (hkl : bks l ≤ 1048576) (rl : TRow w (Lo w) l A) (htab : TabB w.heap.size w) :
    Calls Tryd.prog 4 #[.string ⟨⟨s⟩⟩, .int .i64 a, .slice A l.length c, .int .i64 use] w fun e w' => e = .returned (.bool true) ∧ Below w.heap.size w w' := by
  have hsl : szs l ≤ bks l := by have := sz_le_bk (.mk 0 [] 0 l); rw [sz, bk] at this; simp at this; omega
  have hll := szs_len l
  obtain ⟨m, hm⟩ : ∃ m, m = l.length := ⟨_, rfl⟩
  have I0 : InR 0 := ⟨by omega, by omega⟩
  have hrw : Rep w (Lo w) (.mk 3 [] 0 l) (.agg #[.int .i64 3, .string ⟨#[]⟩, .int .i64 0, .slice A m c]) := rep_mk.2 ⟨A, c, by rw [hm], I0, rl⟩
  have HWH : Hid (∀ W, Below w.heap.size w W → Rep W (Lo W) (.mk 3 [] 0 l) (.agg #[.int .i64 3, .string ⟨#[]⟩, .int .i64 0, .slice A m c])) := fun W h => hrw.lo h
  have HRL : Hid (∀ W, Below w.heap.size w W → TRow W (Lo W) l A) := fun W h => rl.lo h
  have hlx := fun W (h : Below w.heap.size w W) => Large_any (.mk 3 [] 0 l) 200 (Lo W) _ W (by rw [sz]; omega) (HWH.out W h) (fun _ h => h)
  have HLIST : Hid (∀ W, szs l ≤ 262143 → Below w.heap.size w W → Calls Tryd.prog 32 #[.slice A m c] W fun e w' => ∃ u, e = .returned (.agg #[.int .i64 3, .string ⟨#[]⟩, .int .i64 0, u]) ∧ Below W.heap.size W w' ∧ Rep w' (Lo w') (.mk 3 [] 0 l) (.agg #[.int .i64 3, .string ⟨#[]⟩, .int .i64 0, u])) := by
    intro W h3 h
    rw [hm]
    refine (List_any l A c (Lo W) W (by omega) ((HRL.out W h).lrow (fun _ h => h)) (fun _ h => h)).mono ?_
    rintro _ w1 ⟨u, rfl, hb, hnr⟩
    exact ⟨u, rfl, hb, hnr.rep (fun b h2 => Nat.lt_of_lt_of_le h2 hb.size) 3 [] 0 I0⟩
  have HSAME : Hid (∀ W x vx vy, sz x ≤ 262144 → Rep W (Lo W) x vx → Rep W (Lo W) x vy → Calls Tryd.prog 14 #[vx, vy] W fun e w' => e = .returned (.bool true) ∧ Below W.heap.size W w') := by
    intro W x vx vy h1 h2 h3
    have := refSame_any x x (Lo W) vx vy W h1 h2 h3 (fun _ h => h)
    rwa [ord_refl, show decide ((0 : Int) = 0) = true from rfl] at this
  obtain ⟨N, hN⟩ : ∃ N, N = sz (.mk 3 [] 0 l) := ⟨_, rfl⟩
  rw [← hN] at hlx
  have hszN : sz (.mk 3 [] 0 l) = 1 + szs l := by rw [sz]
  rw [← hm]
  have HWK := Lib.hid (works_any w htab)
  have HLX := Lib.hid hlx
  have HN := Lib.hid hN
  have HM := Lib.hid hm
  have HSZ : Hid (sz (.mk 3 [] 0 l) ≤ 262144 ↔ szs l ≤ 262143) := by rw [Hid, hszN]; omega
  have HAI := Lib.hid hai
  have HUI := Lib.hid hui
  have HNN : Hid (N = 1 + szs l) := by rw [Hid, hN, hszN]
  clear rl hrw htab hlx hN hm hai hui hszN
  go_enter Tryd.func4, Tryd.ntmps4
  go_wp2_with fail
  refine HWK.out.mono ?_
  rintro _ w3 ⟨rfl, b3⟩
  have HB3 := Lib.hid b3
  clear b3 HWK
  go_wp2_with fail
  refine (refList_any _ _ _ w3).mono ?_
  rintro _ w4 ⟨rfl, b4⟩
  have HB4 : Hid (Below w.heap.size w w4) := HB3.out.trans (b4.mono HB3.out.size)
  clear b4 HB3
  obtain ⟨z5, hz5⟩ : ∃ z5, z5 = w4.heap.size := ⟨_, rfl⟩
  obtain ⟨W5, hW5⟩ : ∃ W5, W5 = w4.alloc (.cells #[.int .i64 3, .string ⟨#[]⟩, .int .i64 0, .slice A m c] 25) := ⟨_, rfl⟩
  have hb5 : Below w4.heap.size w4 W5 := by rw [hW5]; exact (Below.refl _ _).alloc (Nat.le_refl _) _
  have hg5 : W5.heap[z5]? = some (.cells #[.int .i64 3, .string ⟨#[]⟩, .int .i64 0, .slice A m c] 25 (0, 0)) := by rw [hW5, hz5]; exact heap_alloc_new w4 _
  have HB5 : Hid (Below w.heap.size w W5) := HB4.out.trans (hb5.mono HB4.out.size)
  have HC5 : Hid (∀ W, Below W5.heap.size W5 W → (W.cell? ⟨z5, 0, none⟩ = some (.int .i64 3) ∧ W.cell? ⟨z5, 1, none⟩ = some (.string ⟨#[]⟩) ∧ W.cell? ⟨z5, 2, none⟩ = some (.int .i64 0) ∧ W.cell? ⟨z5, 3, none⟩ = some (.slice A m c))) := fun W h => cell4 ((h.block z5 (Array.getElem?_eq_some_iff.1 hg5).1).trans hg5)
  obtain ⟨B1, hB1⟩ : ∃ B1, B1 = decide (200 < N) := ⟨_, rfl⟩
  have hL := HLX.out W5 HB5.out
  rw [← hB1] at hL
  have HL1 := Lib.hid hL
  have HB1Q := Lib.hid hB1
  have HW5 := Lib.hid hW5
  have HZ5 := Lib.hid hz5
  clear hb5 hg5 hL hB1 hW5 hz5 HB4
  obtain ⟨c0, c1, c2, c3⟩ := HC5.out W5 (Below.refl _ _)
  rw [HW5.out, HZ5.out] at c0 c1 c2 c3
  go_wp2_with fail
  rw [← HW5.out, ← HZ5.out]
  refine HL1.out.mono ?_
  rintro _ w6 ⟨rfl, b6⟩
  have HB56 := Lib.hid b6
  have HB6 : Hid (Below w.heap.size w w6) := HB5.out.trans (b6.mono HB5.out.size)
  clear c0 c1 c2 c3 b6 HL1
  cases B1
  case true =>
    go_wp2
    go_ret
    exact ⟨rfl, HB6.out⟩
  have hN200 : N ≤ 200 := by have := HB1Q.out; simpa using this
  have hszw : sz (.mk 3 [] 0 l) ≤ 262144 := HSZ.out.2 (by have := HNN.out; omega)
  have HSZW := Lib.hid hszw
  clear HB1Q hszw
  go_wp2_with fail
  refine (Key_any s a w6).mono ?_
  rintro _ w7 ⟨rfl, b7⟩
  have HB57 : Hid (Below W5.heap.size W5 w7) := HB56.out.trans (b7.mono HB56.out.size)
  have HB7 : Hid (Below w.heap.size w w7) := HB6.out.trans (b7.mono HB6.out.size)
  clear b7 HB56 HB6
  obtain ⟨z8, hz8⟩ : ∃ z8, z8 = w7.heap.size := ⟨_, rfl⟩
  obtain ⟨W8, hW8⟩ : ∃ W8, W8 = w7.alloc (.cells #[.int .i64 2, .string ⟨⟨s⟩⟩, .int .i64 a, .slice none 0 0] 25) := ⟨_, rfl⟩
  have hb8 : Below w7.heap.size w7 W8 := by rw [hW8]; exact (Below.refl _ _).alloc (Nat.le_refl _) _
  have hg8 : W8.heap[z8]? = some (.cells #[.int .i64 2, .string ⟨⟨s⟩⟩, .int .i64 a, .slice none 0 0] 25 (0, 0)) := by rw [hW8, hz8]; exact heap_alloc_new w7 _
  have HB8 : Hid (Below w.heap.size w W8) := HB7.out.trans (hb8.mono HB7.out.size)
  have hb58 : Below W5.heap.size W5 W8 := HB57.out.trans (hb8.mono HB57.out.size)
  have HC : Hid (∀ W, Below W8.heap.size W8 W → Below w.heap.size w W ∧ (W.cell? ⟨z5, 0, none⟩ = some (.int .i64 3) ∧ W.cell? ⟨z5, 1, none⟩ = some (.string ⟨#[]⟩) ∧ W.cell? ⟨z5, 2, none⟩ = some (.int .i64 0) ∧ W.cell? ⟨z5, 3, none⟩ = some (.slice A m c)) ∧ (W.cell? ⟨z8, 0, none⟩ = some (.int .i64 2) ∧ W.cell? ⟨z8, 1, none⟩ = some (.string ⟨⟨s⟩⟩) ∧ W.cell? ⟨z8, 2, none⟩ = some (.int .i64 a) ∧ W.cell? ⟨z8, 3, none⟩ = some (.slice none 0 0))) := fun W h => ⟨HB8.out.trans (h.mono HB8.out.size), HC5.out W (hb58.trans (h.mono hb58.size)), cell4 ((h.block z8 (Array.getElem?_eq_some_iff.1 hg8).1).trans hg8)⟩
  have HW8 := Lib.hid hW8
  have HZ8 := Lib.hid hz8
  clear hb8 hg8 hb58 hW8 hz8 HB7 HB57
  obtain ⟨hbw, ⟨c0, c1, c2, c3⟩, ⟨d0, d1, d2, d3⟩⟩ := HC.out W8 (Below.refl _ _)
  clear hbw
  go_wp2_with fail
  rw [← HW8.out, ← HZ8.out]
  have cOF : ∀ d os, Calls Tryd.prog 27 #[.string ⟨⟨s⟩⟩] (Go.Sort.grow (redrawn W8 d) os) fun e w'' => e = .returned (.agg #[.int .i64 0, .string ⟨⟨s⟩⟩, .int .i64 0, .slice none 0 0]) ∧ ∃ p : Regrown, w'' = Go.Sort.grow (redrawn W8 p.d) p.os := fun d os => Calls.regrown_of (Of_any s _)
  have cRO : ∀ d os, Calls Tryd.prog 28 #[.string ⟨⟨s⟩⟩] (Go.Sort.grow (redrawn W8 d) os) fun e w'' => e = .returned (.agg #[.int .i64 0, .string ⟨⟨s⟩⟩, .int .i64 0, .slice none 0 0]) ∧ ∃ p : Regrown, w'' = Go.Sort.grow (redrawn W8 p.d) p.os := fun d os => Calls.regrown_of (refOf_any s _)
  have cNU : ∀ d os, Calls Tryd.prog 29 #[.int .i64 a] (Go.Sort.grow (redrawn W8 d) os) fun e w'' => e = .returned (.agg #[.int .i64 1, .string ⟨#[]⟩, .int .i64 a, .slice none 0 0]) ∧ ∃ p : Regrown, w'' = Go.Sort.grow (redrawn W8 p.d) p.os := fun d os => Calls.regrown_of (Num_any a _)
  have cRN : ∀ d os, Calls Tryd.prog 30 #[.int .i64 a] (Go.Sort.grow (redrawn W8 d) os) fun e w'' => e = .returned (.agg #[.int .i64 1, .string ⟨#[]⟩, .int .i64 a, .slice none 0 0]) ∧ ∃ p : Regrown, w'' = Go.Sort.grow (redrawn W8 p.d) p.os := fun d os => Calls.regrown_of (refNum_any a _)
  have cRK : ∀ d os, Calls Tryd.prog 31 #[.string ⟨⟨s⟩⟩, .int .i64 a] (Go.Sort.grow (redrawn W8 d) os) fun e w'' => e = .returned (.agg #[.int .i64 2, .string ⟨⟨s⟩⟩, .int .i64 a, .slice none 0 0]) ∧ ∃ p : Regrown, w'' = Go.Sort.grow (redrawn W8 p.d) p.os := fun d os => Calls.regrown_of (refKey_any s a _)
  have cS : ∀ k t b, InR b → ∀ d os, Calls Tryd.prog 14 #[.agg #[.int .i64 k, .string ⟨⟨t⟩⟩, .int .i64 b, .slice none 0 0], .agg #[.int .i64 k, .string ⟨⟨t⟩⟩, .int .i64 b, .slice none 0 0]] (Go.Sort.grow (redrawn W8 d) os) fun e w'' => e = .returned (.bool true) ∧ ∃ p : Regrown, w'' = Go.Sort.grow (redrawn W8 p.d) p.os := fun k t b hb d os => Calls.regrown_of (HSAME.out _ (.mk k t b []) _ _ (by simp [sz, szs]) (rep_flat _ _ k t b hb) (rep_flat _ _ k t b hb))
  have g0 := fun d os => cell_regrown d0 d os
  have g1 := fun d os => cell_regrown d1 d os
  have g2 := fun d os => cell_regrown d2 d os
  have g3 := fun d os => cell_regrown d3 d os
  refine wp_region_quiet_below (by kernel_rfl) (by kernel_rfl) ?_
  repeat (quiet_step (first | exact cOF _ _ | exact cRO _ _ | exact cNU _ _ | exact cRN _ _ | exact cRK _ _ | exact cS 0 s 0 I0 _ _ | exact cS 1 [] a HAI.out _ _ | exact cS 2 s a HAI.out _ _))
  refine wpQuiet_nil ?_
  intro _ hw'
  obtain ⟨⟨dq, osq⟩, hw''⟩ := hw'
  subst hw''
  have b9 := below_regrown W8 dq osq
  clear g0 g1 g2 g3 cOF cRO cNU cRN cRK cS
  generalize Go.Sort.grow (redrawn W8 dq) osq = w9 at *
  have HB9 := Lib.hid b9
  clear b9 c0 c1 c2 c3 d0 d1 d2 d3
  have HBW9 : Hid (Below w.heap.size w w9) := HB8.out.trans (HB9.out.mono HB8.out.size)
  have HCW : Hid (∀ W, Below w9.heap.size w9 W → Below w.heap.size w W ∧ (W.cell? ⟨z5, 0, none⟩ = some (.int .i64 3) ∧ W.cell? ⟨z5, 1, none⟩ = some (.string ⟨#[]⟩) ∧ W.cell? ⟨z5, 2, none⟩ = some (.int .i64 0) ∧ W.cell? ⟨z5, 3, none⟩ = some (.slice A m c)) ∧ (W.cell? ⟨z8, 0, none⟩ = some (.int .i64 2) ∧ W.cell? ⟨z8, 1, none⟩ = some (.string ⟨⟨s⟩⟩) ∧ W.cell? ⟨z8, 2, none⟩ = some (.int .i64 a) ∧ W.cell? ⟨z8, 3, none⟩ = some (.slice none 0 0))) := fun W h => HC.out W (HB9.out.trans (h.mono HB9.out.size))
  have HROW : Hid (∀ W h, W.heap[h]? = some (.cells #[.string ⟨⟨s⟩⟩, .string ⟨⟨s⟩⟩] 9 (0, 0)) → Calls Tryd.prog 33 #[.slice (some ⟨h, 0, none⟩) 2 2] W fun e w' => ∃ u, e = .returned (.agg #[.int .i64 3, .string ⟨#[]⟩, .int .i64 0, u]) ∧ Below W.heap.size W w' ∧ Rep w' (Lo w') (.mk 3 [] 0 [nm s, nm s]) (.agg #[.int .i64 3, .string ⟨#[]⟩, .int .i64 0, u])) := by
    intro W h hh
    refine (Row_any [s, s] _ 2 W (by simp) (srow_two hh)).mono ?_
    rintro _ w1 ⟨u, rfl, hb, hnr⟩
    exact ⟨u, rfl, hb, hnr.rep (fun _ h => h.elim) 3 [] 0 I0⟩
  have HRROW : Hid (∀ W h, W.heap[h]? = some (.cells #[.string ⟨⟨s⟩⟩, .string ⟨⟨s⟩⟩] 9 (0, 0)) → Calls Tryd.prog 34 #[.slice (some ⟨h, 0, none⟩) 2 2] W fun e w' => ∃ u, e = .returned (.agg #[.int .i64 3, .string ⟨#[]⟩, .int .i64 0, u]) ∧ Below W.heap.size W w' ∧ Rep w' (Lo w') (.mk 3 [] 0 [nm s, nm s]) (.agg #[.int .i64 3, .string ⟨#[]⟩, .int .i64 0, u])) := fun W h hh => refRow_any [s, s] _ 2 W (by simp) (srow_two hh)
  have HSZR : Hid (sz (.mk 3 [] 0 [nm s, nm s]) ≤ 262144) := by rw [Hid]; simp [sz, szs, nm]
  have HSZ1 : Hid (szs l ≤ 262143) := HSZ.out.1 HSZW.out
  have HSZ2 : Hid (szs l ≤ 199) := by have := HNN.out; rw [Hid]; omega
  clear HC HB9 HB8 HC5 HB5 HNN HSZ
  go_wp2_with fail
  refine wp_region_inv (by kernel_rfl) (fun L act W => ∃ t47 t48 t49 t50 t51 t52 t53 t54 t55 t56 t57 t58 t59 t60 t61 t14, act = { tmps := #[.string ⟨⟨s⟩⟩, .int .i64 a, .slice A m c, .int .i64 use, undef, undef, undef, undef, .bool false, .bool true, .pointer (some ⟨z5, 0, none⟩), .bool false, .pointer (some ⟨z8, 0, none⟩), .bool true, t14, undef, .bool true, .bool true, .bool false, .slice A m c, .agg #[.int .i64 3, .string ⟨#[]⟩, .int .i64 0, .slice A m c], .agg #[.int .i64 3, .string ⟨#[]⟩, .int .i64 0, .slice A m c], .bool false, .bool false, undef, .string ⟨⟨s⟩⟩, .int .i64 a, .agg #[.int .i64 2, .string ⟨⟨s⟩⟩, .int .i64 a, .slice none 0 0], .string ⟨⟨s⟩⟩, .agg #[.int .i64 0, .string ⟨⟨s⟩⟩, .int .i64 0, .slice none 0 0], .string ⟨⟨s⟩⟩, .agg #[.int .i64 0, .string ⟨⟨s⟩⟩, .int .i64 0, .slice none 0 0], .bool true, .bool true, .int .i64 a, .agg #[.int .i64 1, .string ⟨#[]⟩, .int .i64 a, .slice none 0 0], .int .i64 a, .agg #[.int .i64 1, .string ⟨#[]⟩, .int .i64 a, .slice none 0 0], .bool true, .bool true, .bool true, .agg #[.int .i64 2, .string ⟨⟨s⟩⟩, .int .i64 a, .slice none 0 0], .string ⟨⟨s⟩⟩, .int .i64 a, .agg #[.int .i64 2, .string ⟨⟨s⟩⟩, .int .i64 a, .slice none 0 0], .bool true, .bool true, t47, t48, t49, t50, t51, t52, t53, t54, t55, t56, t57, t58, t59, t60, t61, undef, undef, undef, undef, undef, undef, undef, undef, undef, undef, undef, undef, undef, undef, undef, undef, undef, undef, undef, undef, undef, undef, undef, undef, undef, undef, undef, undef, undef, undef], defers := [] } ∧ (L 0 = true → (.slice A m c : Value) = t47) ∧ (L 2 = true → (.agg #[.int .i64 3, .string ⟨#[]⟩, .int .i64 0, .slice A m c] : Value) = t49) ∧ (L 3 = true → (.bool true : Value) = t50) ∧ (L 4 = true → (.bool true : Value) = t51) ∧ (L 5 = true → (.string ⟨⟨s⟩⟩ : Value) = t52) ∧ (L 6 = true → (.string ⟨⟨s⟩⟩ : Value) = t53) ∧ (L 9 = true → (.string ⟨⟨s⟩⟩ : Value) = t56) ∧ (L 10 = true → (.string ⟨⟨s⟩⟩ : Value) = t57) ∧ (L 13 = true → (.bool true : Value) = t60) ∧ (L 14 = true → (.bool true : Value) = t61) ∧ (L 15 = true → (.bool true : Value) = t14) ∧ (L 15 = false → (undef : Value) = t14) ∧ (Below w9.heap.size w9 W) ∧ (L 1 = true → ∃ u, (.agg #[.int .i64 3, .string ⟨#[]⟩, .int .i64 0, u] : Value) = t48 ∧ Rep W (Lo W) (.mk 3 [] 0 l) t48) ∧ (L 7 = true → ∃ h, (.slice (some ⟨h, 0, none⟩) 2 2 : Value) = t54 ∧ W.heap[h]? = some (.cells #[.string ⟨⟨s⟩⟩, .string ⟨⟨s⟩⟩] 9 (0, 0))) ∧ (L 8 = true → ∃ u, (.agg #[.int .i64 3, .string ⟨#[]⟩, .int .i64 0, u] : Value) = t55 ∧ Rep W (Lo W) (.mk 3 [] 0 [nm s, nm s]) t55) ∧ (L 11 = true → ∃ h, (.slice (some ⟨h, 0, none⟩) 2 2 : Value) = t58 ∧ W.heap[h]? = some (.cells #[.string ⟨⟨s⟩⟩, .string ⟨⟨s⟩⟩] 9 (0, 0))) ∧ (L 12 = true → ∃ u, (.agg #[.int .i64 3, .string ⟨#[]⟩, .int .i64 0, u] : Value) = t59 ∧ Rep W (Lo W) (.mk 3 [] 0 [nm s, nm s]) t59)) (by kernel_rfl) ?_ ?_ ?_
  · exact ⟨_, _, _, _, _, _, _, _, _, _, _, _, _, _, _, _, rfl, nofun, nofun, nofun, nofun, nofun, nofun, nofun, nofun, nofun, nofun, nofun, fun _ => rfl, (Below.refl _ _).drew, nofun, nofun, nofun, nofun, nofun⟩
  · rintro L _ W i oo ⟨t47, t48, t49, t50, t51, t52, t53, t54, t55, t56, t57, t58, t59, t60, t61, t14, rfl, f0, f2, f3, f4, f5, f6, f9, f10, f13, f14, f15, u15, qb, g1, g7, g8, g11, g12⟩ ho hL hd
    rcases i with _ | _ | _ | _ | _ | _ | _ | _ | _ | _ | _ | _ | _ | _ | _ | _ | i
    · obtain rfl := Option.some.inj ho
      refine wpOp_step rfl fun K hK => ?_
      have F0X := Lib.hid f0
      have F2X := Lib.hid f2
      have F3X := Lib.hid f3
      have F4X := Lib.hid f4
      have F5X := Lib.hid f5
      have F6X := Lib.hid f6
      have F9X := Lib.hid f9
      have F10X := Lib.hid f10
      have F13X := Lib.hid f13
      have F14X := Lib.hid f14
      have F15X := Lib.hid f15
      have U15X := Lib.hid u15
      have QBX := Lib.hid qb
      have G1X := Lib.hid g1
      have G7X := Lib.hid g7
      have G8X := Lib.hid g8
      have G11X := Lib.hid g11
      have G12X := Lib.hid g12
      clear f0 f2 f3 f4 f5 f6 f9 f10 f13 f14 f15 u15 qb g1 g7 g8 g11 g12 hd ho hL
      go_simp
      refine hK _ _ ?_
      exact ⟨_, _, _, _, _, _, _, _, _, _, _, _, _, _, _, _, rfl, fun _ => rfl, F2X.out, F3X.out, F4X.out, F5X.out, F6X.out, F9X.out, F10X.out, F13X.out, F14X.out, F15X.out, U15X.out, QBX.out, G1X.out, G7X.out, G8X.out, G11X.out, G12X.out⟩
    · obtain rfl := Option.some.inj ho
      have l0 := hd ⟨0, .data⟩ (by simp) rfl
      obtain rfl := f0 l0
      have HC := Lib.hid (HLIST.out W HSZ1.out (HCW.out W qb).1)
      refine wpOp_step rfl fun K hK => ?_
      have F0X := Lib.hid f0
      have F2X := Lib.hid f2
      have F3X := Lib.hid f3
      have F4X := Lib.hid f4
      have F5X := Lib.hid f5
      have F6X := Lib.hid f6
      have F9X := Lib.hid f9
      have F10X := Lib.hid f10
      have F13X := Lib.hid f13
      have F14X := Lib.hid f14
      have F15X := Lib.hid f15
      have U15X := Lib.hid u15
      have QBX := Lib.hid qb
      have G1X := Lib.hid g1
      have G7X := Lib.hid g7
      have G8X := Lib.hid g8
      have G11X := Lib.hid g11
      have G12X := Lib.hid g12
      clear f0 f2 f3 f4 f5 f6 f9 f10 f13 f14 f15 u15 qb g1 g7 g8 g11 g12 hd ho hL l0
      go_simp
      refine HC.out.mono ?_
      rintro _ w1 ⟨u, rfl, hb1, hrep1⟩
      refine hK _ _ ?_
      exact ⟨_, _, _, _, _, _, _, _, _, _, _, _, _, _, _, _, rfl, F0X.out, F2X.out, F3X.out, F4X.out, F5X.out, F6X.out, F9X.out, F10X.out, F13X.out, F14X.out, F15X.out, U15X.out, QBX.out.trans (hb1.mono QBX.out.size), fun _ => ⟨_, rfl, hrep1⟩, fun h => (by obtain ⟨h1, e1, e2⟩ := G7X.out h; exact ⟨h1, e1, (hb1.block h1 (Array.getElem?_eq_some_iff.1 e2).1).trans e2⟩), fun h => (by obtain ⟨u, e, h2⟩ := G8X.out h; exact ⟨u, e, h2.lo hb1⟩), fun h => (by obtain ⟨h1, e1, e2⟩ := G11X.out h; exact ⟨h1, e1, (hb1.block h1 (Array.getElem?_eq_some_iff.1 e2).1).trans e2⟩), fun h => (by obtain ⟨u, e, h2⟩ := G12X.out h; exact ⟨u, e, h2.lo hb1⟩)⟩
    · obtain rfl := Option.some.inj ho
      obtain ⟨hbw, ⟨c0, c1, c2, c3⟩, ⟨d0, d1, d2, d3⟩⟩ := HCW.out W qb
      clear hbw
      refine wpOp_step rfl fun K hK => ?_
      have F0X := Lib.hid f0
      have F2X := Lib.hid f2
      have F3X := Lib.hid f3
      have F4X := Lib.hid f4
      have F5X := Lib.hid f5
      have F6X := Lib.hid f6
      have F9X := Lib.hid f9
      have F10X := Lib.hid f10
      have F13X := Lib.hid f13
      have F14X := Lib.hid f14
      have F15X := Lib.hid f15
      have U15X := Lib.hid u15
      have QBX := Lib.hid qb
      have G1X := Lib.hid g1
      have G7X := Lib.hid g7
      have G8X := Lib.hid g8
      have G11X := Lib.hid g11
      have G12X := Lib.hid g12
      clear f0 f2 f3 f4 f5 f6 f9 f10 f13 f14 f15 u15 qb g1 g7 g8 g11 g12 hd ho hL
      go_simp
      refine hK _ _ ?_
      exact ⟨_, _, _, _, _, _, _, _, _, _, _, _, _, _, _, _, rfl, F0X.out, fun _ => rfl, F3X.out, F4X.out, F5X.out, F6X.out, F9X.out, F10X.out, F13X.out, F14X.out, F15X.out, U15X.out, QBX.out, G1X.out, G7X.out, G8X.out, G11X.out, G12X.out⟩
    · obtain rfl := Option.some.inj ho
      have l1 := hd ⟨1, .data⟩ (by simp) rfl
      have l2 := hd ⟨2, .data⟩ (by simp) rfl
      obtain rfl := f2 l2
      obtain ⟨u1, rfl, hrep⟩ := g1 l1
      have HC := Lib.hid (HSAME.out W _ _ _ HSZW.out hrep (HWH.out W (HCW.out W qb).1))
      refine wpOp_step rfl fun K hK => ?_
      have F0X := Lib.hid f0
      have F2X := Lib.hid f2
      have F3X := Lib.hid f3
      have F4X := Lib.hid f4
      have F5X := Lib.hid f5
      have F6X := Lib.hid f6
      have F9X := Lib.hid f9
      have F10X := Lib.hid f10
      have F13X := Lib.hid f13
      have F14X := Lib.hid f14
      have F15X := Lib.hid f15
      have U15X := Lib.hid u15
      have QBX := Lib.hid qb
      have G1X := Lib.hid g1
      have G7X := Lib.hid g7
      have G8X := Lib.hid g8
      have G11X := Lib.hid g11
      have G12X := Lib.hid g12
      clear f0 f2 f3 f4 f5 f6 f9 f10 f13 f14 f15 u15 qb g1 g7 g8 g11 g12 hd ho hL l1 l2 hrep
      go_simp
      refine HC.out.mono ?_
      rintro _ w1 ⟨rfl, hb1⟩
      refine hK _ _ ?_
      exact ⟨_, _, _, _, _, _, _, _, _, _, _, _, _, _, _, _, rfl, F0X.out, F2X.out, fun _ => rfl, F4X.out, F5X.out, F6X.out, F9X.out, F10X.out, F13X.out, F14X.out, F15X.out, U15X.out, QBX.out.trans (hb1.mono QBX.out.size), fun h => (by obtain ⟨u, e, h2⟩ := G1X.out h; exact ⟨u, e, h2.lo hb1⟩), fun h => (by obtain ⟨h1, e1, e2⟩ := G7X.out h; exact ⟨h1, e1, (hb1.block h1 (Array.getElem?_eq_some_iff.1 e2).1).trans e2⟩), fun h => (by obtain ⟨u, e, h2⟩ := G8X.out h; exact ⟨u, e, h2.lo hb1⟩), fun h => (by obtain ⟨h1, e1, e2⟩ := G11X.out h; exact ⟨h1, e1, (hb1.block h1 (Array.getElem?_eq_some_iff.1 e2).1).trans e2⟩), fun h => (by obtain ⟨u, e, h2⟩ := G12X.out h; exact ⟨u, e, h2.lo hb1⟩)⟩
    · obtain rfl := Option.some.inj ho
      have l3 := hd ⟨3, .data⟩ (by simp) rfl
      obtain rfl := f3 l3
      refine wpOp_step rfl fun K hK => ?_
      have F0X := Lib.hid f0
      have F2X := Lib.hid f2
      have F3X := Lib.hid f3
      have F4X := Lib.hid f4
      have F5X := Lib.hid f5
      have F6X := Lib.hid f6
      have F9X := Lib.hid f9
      have F10X := Lib.hid f10
      have F13X := Lib.hid f13
      have F14X := Lib.hid f14
      have F15X := Lib.hid f15
      have U15X := Lib.hid u15
      have QBX := Lib.hid qb
      have G1X := Lib.hid g1
      have G7X := Lib.hid g7
      have G8X := Lib.hid g8
      have G11X := Lib.hid g11
      have G12X := Lib.hid g12
      clear f0 f2 f3 f4 f5 f6 f9 f10 f13 f14 f15 u15 qb g1 g7 g8 g11 g12 hd ho hL l3
      go_simp
      refine hK _ _ ?_
      exact ⟨_, _, _, _, _, _, _, _, _, _, _, _, _, _, _, _, rfl, F0X.out, F2X.out, F3X.out, fun _ => rfl, F5X.out, F6X.out, F9X.out, F10X.out, F13X.out, F14X.out, F15X.out, U15X.out, QBX.out, G1X.out, G7X.out, G8X.out, G11X.out, G12X.out⟩
    · obtain rfl := Option.some.inj ho
      have l4 := hd ⟨4, .guard⟩ (by simp) rfl
      obtain rfl := f4 l4
      refine wpOp_step rfl fun K hK => ?_
      have F0X := Lib.hid f0
      have F2X := Lib.hid f2
      have F3X := Lib.hid f3
      have F4X := Lib.hid f4
      have F5X := Lib.hid f5
      have F6X := Lib.hid f6
      have F9X := Lib.hid f9
      have F10X := Lib.hid f10
      have F13X := Lib.hid f13
      have F14X := Lib.hid f14
      have F15X := Lib.hid f15
      have U15X := Lib.hid u15
      have QBX := Lib.hid qb
      have G1X := Lib.hid g1
      have G7X := Lib.hid g7
      have G8X := Lib.hid g8
      have G11X := Lib.hid g11
      have G12X := Lib.hid g12
      clear f0 f2 f3 f4 f5 f6 f9 f10 f13 f14 f15 u15 qb g1 g7 g8 g11 g12 hd ho hL l4
      go_simp
      refine hK _ _ ?_
      exact ⟨_, _, _, _, _, _, _, _, _, _, _, _, _, _, _, _, rfl, F0X.out, F2X.out, F3X.out, F4X.out, fun _ => rfl, F6X.out, F9X.out, F10X.out, F13X.out, F14X.out, F15X.out, U15X.out, QBX.out, G1X.out, G7X.out, G8X.out, G11X.out, G12X.out⟩
    · obtain rfl := Option.some.inj ho
      have l4 := hd ⟨4, .guard⟩ (by simp) rfl
      obtain rfl := f4 l4
      refine wpOp_step rfl fun K hK => ?_
      have F0X := Lib.hid f0
      have F2X := Lib.hid f2
      have F3X := Lib.hid f3
      have F4X := Lib.hid f4
      have F5X := Lib.hid f5
      have F6X := Lib.hid f6
      have F9X := Lib.hid f9
      have F10X := Lib.hid f10
      have F13X := Lib.hid f13
      have F14X := Lib.hid f14
      have F15X := Lib.hid f15
      have U15X := Lib.hid u15
      have QBX := Lib.hid qb
      have G1X := Lib.hid g1
      have G7X := Lib.hid g7
      have G8X := Lib.hid g8
      have G11X := Lib.hid g11
      have G12X := Lib.hid g12
      clear f0 f2 f3 f4 f5 f6 f9 f10 f13 f14 f15 u15 qb g1 g7 g8 g11 g12 hd ho hL l4
      go_simp
      refine hK _ _ ?_
      exact ⟨_, _, _, _, _, _, _, _, _, _, _, _, _, _, _, _, rfl, F0X.out, F2X.out, F3X.out, F4X.out, F5X.out, fun _ => rfl, F9X.out, F10X.out, F13X.out, F14X.out, F15X.out, U15X.out, QBX.out, G1X.out, G7X.out, G8X.out, G11X.out, G12X.out⟩
    · obtain rfl := Option.some.inj ho
      have l5 := hd ⟨5, .data⟩ (by simp) rfl
      have l6 := hd ⟨6, .data⟩ (by simp) rfl
      have l4 := hd ⟨4, .guard⟩ (by simp) rfl
      obtain rfl := f5 l5
      obtain rfl := f6 l6
      obtain rfl := f4 l4
      refine wpOp_step rfl fun K hK => ?_
      have F0X := Lib.hid f0
      have F2X := Lib.hid f2
      have F3X := Lib.hid f3
      have F4X := Lib.hid f4
      have F5X := Lib.hid f5
      have F6X := Lib.hid f6
      have F9X := Lib.hid f9
      have F10X := Lib.hid f10
      have F13X := Lib.hid f13
      have F14X := Lib.hid f14
      have F15X := Lib.hid f15
      have U15X := Lib.hid u15
      have QBX := Lib.hid qb
      have G1X := Lib.hid g1
      have G7X := Lib.hid g7
      have G8X := Lib.hid g8
      have G11X := Lib.hid g11
      have G12X := Lib.hid g12
      clear f0 f2 f3 f4 f5 f6 f9 f10 f13 f14 f15 u15 qb g1 g7 g8 g11 g12 hd ho hL l5 l6 l4
      go_simp
      refine hK _ _ ?_
      exact ⟨_, _, _, _, _, _, _, _, _, _, _, _, _, _, _, _, rfl, F0X.out, F2X.out, F3X.out, F4X.out, F5X.out, F6X.out, F9X.out, F10X.out, F13X.out, F14X.out, F15X.out, U15X.out, QBX.out.trans (((Below.refl W.heap.size W).alloc (Nat.le_refl _) _).mono QBX.out.size), fun h => (by obtain ⟨u, e, h2⟩ := G1X.out h; exact ⟨u, e, h2.lo ((Below.refl W.heap.size W).alloc (Nat.le_refl _) _)⟩), fun _ => ⟨_, rfl, heap_alloc_new W _⟩, fun h => (by obtain ⟨u, e, h2⟩ := G8X.out h; exact ⟨u, e, h2.lo ((Below.refl W.heap.size W).alloc (Nat.le_refl _) _)⟩), fun h => (by obtain ⟨h1, e1, e2⟩ := G11X.out h; exact ⟨h1, e1, (((Below.refl W.heap.size W).alloc (Nat.le_refl _) _).block h1 (Array.getElem?_eq_some_iff.1 e2).1).trans e2⟩), fun h => (by obtain ⟨u, e, h2⟩ := G12X.out h; exact ⟨u, e, h2.lo ((Below.refl W.heap.size W).alloc (Nat.le_refl _) _)⟩)⟩
    · obtain rfl := Option.some.inj ho
      have l7 := hd ⟨7, .data⟩ (by simp) rfl
      have l4 := hd ⟨4, .guard⟩ (by simp) rfl
      obtain rfl := f4 l4
      obtain ⟨h7, rfl, hh7⟩ := g7 l7
      have HC := Lib.hid (HROW.out W h7 hh7)
      refine wpOp_step rfl fun K hK => ?_
      have F0X := Lib.hid f0
      have F2X := Lib.hid f2
      have F3X := Lib.hid f3
      have F4X := Lib.hid f4
      have F5X := Lib.hid f5
      have F6X := Lib.hid f6
      have F9X := Lib.hid f9
      have F10X := Lib.hid f10
      have F13X := Lib.hid f13
      have F14X := Lib.hid f14
      have F15X := Lib.hid f15
      have U15X := Lib.hid u15
      have QBX := Lib.hid qb
      have G1X := Lib.hid g1
      have G7X := Lib.hid g7
      have G8X := Lib.hid g8
      have G11X := Lib.hid g11
      have G12X := Lib.hid g12
      clear f0 f2 f3 f4 f5 f6 f9 f10 f13 f14 f15 u15 qb g1 g7 g8 g11 g12 hd ho hL l7 l4 hh7
      go_simp
      refine HC.out.mono ?_
      rintro _ w1 ⟨u, rfl, hb1, hrep1⟩
      refine hK _ _ ?_
      exact ⟨_, _, _, _, _, _, _, _, _, _, _, _, _, _, _, _, rfl, F0X.out, F2X.out, F3X.out, F4X.out, F5X.out, F6X.out, F9X.out, F10X.out, F13X.out, F14X.out, F15X.out, U15X.out, QBX.out.trans (hb1.mono QBX.out.size), fun h => (by obtain ⟨u, e, h2⟩ := G1X.out h; exact ⟨u, e, h2.lo hb1⟩), fun h => (by obtain ⟨h1, e1, e2⟩ := G7X.out h; exact ⟨h1, e1, (hb1.block h1 (Array.getElem?_eq_some_iff.1 e2).1).trans e2⟩), fun _ => ⟨_, rfl, hrep1⟩, fun h => (by obtain ⟨h1, e1, e2⟩ := G11X.out h; exact ⟨h1, e1, (hb1.block h1 (Array.getElem?_eq_some_iff.1 e2).1).trans e2⟩), fun h => (by obtain ⟨u, e, h2⟩ := G12X.out h; exact ⟨u, e, h2.lo hb1⟩)⟩
    · obtain rfl := Option.some.inj ho
      have l4 := hd ⟨4, .guard⟩ (by simp) rfl
      obtain rfl := f4 l4
      refine wpOp_step rfl fun K hK => ?_
      have F0X := Lib.hid f0
      have F2X := Lib.hid f2
      have F3X := Lib.hid f3
      have F4X := Lib.hid f4
      have F5X := Lib.hid f5
      have F6X := Lib.hid f6
      have F9X := Lib.hid f9
      have F10X := Lib.hid f10
      have F13X := Lib.hid f13
      have F14X := Lib.hid f14
      have F15X := Lib.hid f15
      have U15X := Lib.hid u15
      have QBX := Lib.hid qb
      have G1X := Lib.hid g1
      have G7X := Lib.hid g7
      have G8X := Lib.hid g8
      have G11X := Lib.hid g11
      have G12X := Lib.hid g12
      clear f0 f2 f3 f4 f5 f6 f9 f10 f13 f14 f15 u15 qb g1 g7 g8 g11 g12 hd ho hL l4
      go_simp
      refine hK _ _ ?_
      exact ⟨_, _, _, _, _, _, _, _, _, _, _, _, _, _, _, _, rfl, F0X.out, F2X.out, F3X.out, F4X.out, F5X.out, F6X.out, fun _ => rfl, F10X.out, F13X.out, F14X.out, F15X.out, U15X.out, QBX.out, G1X.out, G7X.out, G8X.out, G11X.out, G12X.out⟩
    · obtain rfl := Option.some.inj ho
      have l4 := hd ⟨4, .guard⟩ (by simp) rfl
      obtain rfl := f4 l4
      refine wpOp_step rfl fun K hK => ?_
      have F0X := Lib.hid f0
      have F2X := Lib.hid f2
      have F3X := Lib.hid f3
      have F4X := Lib.hid f4
      have F5X := Lib.hid f5
      have F6X := Lib.hid f6
      have F9X := Lib.hid f9
      have F10X := Lib.hid f10
      have F13X := Lib.hid f13
      have F14X := Lib.hid f14
      have F15X := Lib.hid f15
      have U15X := Lib.hid u15
      have QBX := Lib.hid qb
      have G1X := Lib.hid g1
      have G7X := Lib.hid g7
      have G8X := Lib.hid g8
      have G11X := Lib.hid g11
      have G12X := Lib.hid g12
      clear f0 f2 f3 f4 f5 f6 f9 f10 f13 f14 f15 u15 qb g1 g7 g8 g11 g12 hd ho hL l4
      go_simp
      refine hK _ _ ?_
      exact ⟨_, _, _, _, _, _, _, _, _, _, _, _, _, _, _, _, rfl, F0X.out, F2X.out, F3X.out, F4X.out, F5X.out, F6X.out, F9X.out, fun _ => rfl, F13X.out, F14X.out, F15X.out, U15X.out, QBX.out, G1X.out, G7X.out, G8X.out, G11X.out, G12X.out⟩
    · obtain rfl := Option.some.inj ho
      have l9 := hd ⟨9, .data⟩ (by simp) rfl
      have l10 := hd ⟨10, .data⟩ (by simp) rfl
      have l4 := hd ⟨4, .guard⟩ (by simp) rfl
      obtain rfl := f9 l9
      obtain rfl := f10 l10
      obtain rfl := f4 l4
      refine wpOp_step rfl fun K hK => ?_
      have F0X := Lib.hid f0
      have F2X := Lib.hid f2
      have F3X := Lib.hid f3
      have F4X := Lib.hid f4
      have F5X := Lib.hid f5
      have F6X := Lib.hid f6
      have F9X := Lib.hid f9
      have F10X := Lib.hid f10
      have F13X := Lib.hid f13
      have F14X := Lib.hid f14
      have F15X := Lib.hid f15
      have U15X := Lib.hid u15
      have QBX := Lib.hid qb
      have G1X := Lib.hid g1
      have G7X := Lib.hid g7
      have G8X := Lib.hid g8
      have G11X := Lib.hid g11
      have G12X := Lib.hid g12
      clear f0 f2 f3 f4 f5 f6 f9 f10 f13 f14 f15 u15 qb g1 g7 g8 g11 g12 hd ho hL l9 l10 l4
      go_simp
      refine hK _ _ ?_
      exact ⟨_, _, _, _, _, _, _, _, _, _, _, _, _, _, _, _, rfl, F0X.out, F2X.out, F3X.out, F4X.out, F5X.out, F6X.out, F9X.out, F10X.out, F13X.out, F14X.out, F15X.out, U15X.out, QBX.out.trans (((Below.refl W.heap.size W).alloc (Nat.le_refl _) _).mono QBX.out.size), fun h => (by obtain ⟨u, e, h2⟩ := G1X.out h; exact ⟨u, e, h2.lo ((Below.refl W.heap.size W).alloc (Nat.le_refl _) _)⟩), fun h => (by obtain ⟨h1, e1, e2⟩ := G7X.out h; exact ⟨h1, e1, (((Below.refl W.heap.size W).alloc (Nat.le_refl _) _).block h1 (Array.getElem?_eq_some_iff.1 e2).1).trans e2⟩), fun h => (by obtain ⟨u, e, h2⟩ := G8X.out h; exact ⟨u, e, h2.lo ((Below.refl W.heap.size W).alloc (Nat.le_refl _) _)⟩), fun _ => ⟨_, rfl, heap_alloc_new W _⟩, fun h => (by obtain ⟨u, e, h2⟩ := G12X.out h; exact ⟨u, e, h2.lo ((Below.refl W.heap.size W).alloc (Nat.le_refl _) _)⟩)⟩
    · obtain rfl := Option.some.inj ho
      have l11 := hd ⟨11, .data⟩ (by simp) rfl
      have l4 := hd ⟨4, .guard⟩ (by simp) rfl
      obtain rfl := f4 l4
      obtain ⟨h11, rfl, hh11⟩ := g11 l11
      have HC := Lib.hid (HRROW.out W h11 hh11)
      refine wpOp_step rfl fun K hK => ?_
      have F0X := Lib.hid f0
      have F2X := Lib.hid f2
      have F3X := Lib.hid f3
      have F4X := Lib.hid f4
      have F5X := Lib.hid f5
      have F6X := Lib.hid f6
      have F9X := Lib.hid f9
      have F10X := Lib.hid f10
      have F13X := Lib.hid f13
      have F14X := Lib.hid f14
      have F15X := Lib.hid f15
      have U15X := Lib.hid u15
      have QBX := Lib.hid qb
      have G1X := Lib.hid g1
      have G7X := Lib.hid g7
      have G8X := Lib.hid g8
      have G11X := Lib.hid g11
      have G12X := Lib.hid g12
      clear f0 f2 f3 f4 f5 f6 f9 f10 f13 f14 f15 u15 qb g1 g7 g8 g11 g12 hd ho hL l11 l4 hh11
      go_simp
      refine HC.out.mono ?_
      rintro _ w1 ⟨u, rfl, hb1, hrep1⟩
      refine hK _ _ ?_
      exact ⟨_, _, _, _, _, _, _, _, _, _, _, _, _, _, _, _, rfl, F0X.out, F2X.out, F3X.out, F4X.out, F5X.out, F6X.out, F9X.out, F10X.out, F13X.out, F14X.out, F15X.out, U15X.out, QBX.out.trans (hb1.mono QBX.out.size), fun h => (by obtain ⟨u, e, h2⟩ := G1X.out h; exact ⟨u, e, h2.lo hb1⟩), fun h => (by obtain ⟨h1, e1, e2⟩ := G7X.out h; exact ⟨h1, e1, (hb1.block h1 (Array.getElem?_eq_some_iff.1 e2).1).trans e2⟩), fun h => (by obtain ⟨u, e, h2⟩ := G8X.out h; exact ⟨u, e, h2.lo hb1⟩), fun h => (by obtain ⟨h1, e1, e2⟩ := G11X.out h; exact ⟨h1, e1, (hb1.block h1 (Array.getElem?_eq_some_iff.1 e2).1).trans e2⟩), fun _ => ⟨_, rfl, hrep1⟩⟩
    · obtain rfl := Option.some.inj ho
      have l8 := hd ⟨8, .data⟩ (by simp) rfl
      have l12 := hd ⟨12, .data⟩ (by simp) rfl
      have l4 := hd ⟨4, .guard⟩ (by simp) rfl
      obtain rfl := f4 l4
      obtain ⟨u8, rfl, hrep8⟩ := g8 l8
      obtain ⟨u12, rfl, hrep12⟩ := g12 l12
      have HC := Lib.hid (HSAME.out W _ _ _ HSZR.out hrep8 hrep12)
      refine wpOp_step rfl fun K hK => ?_
      have F0X := Lib.hid f0
      have F2X := Lib.hid f2
      have F3X := Lib.hid f3
      have F4X := Lib.hid f4
      have F5X := Lib.hid f5
      have F6X := Lib.hid f6
      have F9X := Lib.hid f9
      have F10X := Lib.hid f10
      have F13X := Lib.hid f13
      have F14X := Lib.hid f14
      have F15X := Lib.hid f15
      have U15X := Lib.hid u15
      have QBX := Lib.hid qb
      have G1X := Lib.hid g1
      have G7X := Lib.hid g7
      have G8X := Lib.hid g8
      have G11X := Lib.hid g11
      have G12X := Lib.hid g12
      clear f0 f2 f3 f4 f5 f6 f9 f10 f13 f14 f15 u15 qb g1 g7 g8 g11 g12 hd ho hL l8 l12 l4 hrep8 hrep12
      go_simp
      refine HC.out.mono ?_
      rintro _ w1 ⟨rfl, hb1⟩
      refine hK _ _ ?_
      exact ⟨_, _, _, _, _, _, _, _, _, _, _, _, _, _, _, _, rfl, F0X.out, F2X.out, F3X.out, F4X.out, F5X.out, F6X.out, F9X.out, F10X.out, fun _ => rfl, F14X.out, F15X.out, U15X.out, QBX.out.trans (hb1.mono QBX.out.size), fun h => (by obtain ⟨u, e, h2⟩ := G1X.out h; exact ⟨u, e, h2.lo hb1⟩), fun h => (by obtain ⟨h1, e1, e2⟩ := G7X.out h; exact ⟨h1, e1, (hb1.block h1 (Array.getElem?_eq_some_iff.1 e2).1).trans e2⟩), fun h => (by obtain ⟨u, e, h2⟩ := G8X.out h; exact ⟨u, e, h2.lo hb1⟩), fun h => (by obtain ⟨h1, e1, e2⟩ := G11X.out h; exact ⟨h1, e1, (hb1.block h1 (Array.getElem?_eq_some_iff.1 e2).1).trans e2⟩), fun h => (by obtain ⟨u, e, h2⟩ := G12X.out h; exact ⟨u, e, h2.lo hb1⟩)⟩
    · obtain rfl := Option.some.inj ho
      have l4 := hd ⟨4, .data⟩ (by simp) rfl
      have l13 := hd ⟨13, .data⟩ (by simp) rfl
      obtain rfl := f4 l4
      obtain rfl := f13 l13
      refine wpOp_step rfl fun K hK => ?_
      have F0X := Lib.hid f0
      have F2X := Lib.hid f2
      have F3X := Lib.hid f3
      have F4X := Lib.hid f4
      have F5X := Lib.hid f5
      have F6X := Lib.hid f6
      have F9X := Lib.hid f9
      have F10X := Lib.hid f10
      have F13X := Lib.hid f13
      have F14X := Lib.hid f14
      have F15X := Lib.hid f15
      have U15X := Lib.hid u15
      have QBX := Lib.hid qb
      have G1X := Lib.hid g1
      have G7X := Lib.hid g7
      have G8X := Lib.hid g8
      have G11X := Lib.hid g11
      have G12X := Lib.hid g12
      clear f0 f2 f3 f4 f5 f6 f9 f10 f13 f14 f15 u15 qb g1 g7 g8 g11 g12 hd ho hL l4 l13
      go_simp
      refine hK _ _ ?_
      exact ⟨_, _, _, _, _, _, _, _, _, _, _, _, _, _, _, _, rfl, F0X.out, F2X.out, F3X.out, F4X.out, F5X.out, F6X.out, F9X.out, F10X.out, F13X.out, fun _ => rfl, F15X.out, U15X.out, QBX.out, G1X.out, G7X.out, G8X.out, G11X.out, G12X.out⟩
    · obtain rfl := Option.some.inj ho
      have l14 := hd ⟨14, .data⟩ (by simp) rfl
      obtain rfl := f14 l14
      refine wpOp_step rfl fun K hK => ?_
      have F0X := Lib.hid f0
      have F2X := Lib.hid f2
      have F3X := Lib.hid f3
      have F4X := Lib.hid f4
      have F5X := Lib.hid f5
      have F6X := Lib.hid f6
      have F9X := Lib.hid f9
      have F10X := Lib.hid f10
      have F13X := Lib.hid f13
      have F14X := Lib.hid f14
      have F15X := Lib.hid f15
      have U15X := Lib.hid u15
      have QBX := Lib.hid qb
      have G1X := Lib.hid g1
      have G7X := Lib.hid g7
      have G8X := Lib.hid g8
      have G11X := Lib.hid g11
      have G12X := Lib.hid g12
      clear f0 f2 f3 f4 f5 f6 f9 f10 f13 f14 f15 u15 qb g1 g7 g8 g11 g12 hd ho hL l14
      go_simp
      refine hK _ _ ?_
      exact ⟨_, _, _, _, _, _, _, _, _, _, _, _, _, _, _, _, rfl, F0X.out, F2X.out, F3X.out, F4X.out, F5X.out, F6X.out, F9X.out, F10X.out, F13X.out, F14X.out, fun _ => rfl, nofun, QBX.out, G1X.out, G7X.out, G8X.out, G11X.out, G12X.out⟩
    · simp at ho
  · rintro L _ w10 ⟨t47, t48, t49, t50, t51, t52, t53, t54, t55, t56, t57, t58, t59, t60, t61, t14, rfl, f0, f2, f3, f4, f5, f6, f9, f10, f13, f14, f15, u15, qb, g1, g7, g8, g11, g12⟩ hall
    obtain rfl := f0 (hall 0 (by decide))
    obtain rfl := f2 (hall 2 (by decide))
    obtain rfl := f3 (hall 3 (by decide))
    obtain rfl := f4 (hall 4 (by decide))
    obtain rfl := f5 (hall 5 (by decide))
    obtain rfl := f6 (hall 6 (by decide))
    obtain rfl := f9 (hall 9 (by decide))
    obtain rfl := f10 (hall 10 (by decide))
    obtain rfl := f13 (hall 13 (by decide))
    obtain rfl := f14 (hall 14 (by decide))
    obtain rfl := f15 (hall 15 (by decide))
    have HB10 := Lib.hid qb
    clear qb g1 g7 g8 g11 g12 hall
    have HBW10 : Hid (Below w.heap.size w w10) := HBW9.out.trans (HB10.out.mono HBW9.out.size)
    have HCX : Hid (∀ W, Below w10.heap.size w10 W → Below w.heap.size w W ∧ (W.cell? ⟨z5, 0, none⟩ = some (.int .i64 3) ∧ W.cell? ⟨z5, 1, none⟩ = some (.string ⟨#[]⟩) ∧ W.cell? ⟨z5, 2, none⟩ = some (.int .i64 0) ∧ W.cell? ⟨z5, 3, none⟩ = some (.slice A m c)) ∧ (W.cell? ⟨z8, 0, none⟩ = some (.int .i64 2) ∧ W.cell? ⟨z8, 1, none⟩ = some (.string ⟨⟨s⟩⟩) ∧ W.cell? ⟨z8, 2, none⟩ = some (.int .i64 a) ∧ W.cell? ⟨z8, 3, none⟩ = some (.slice none 0 0))) := fun W h => HCW.out W (HB10.out.trans (h.mono HB10.out.size))
    have HS4 : ∀ (k : Int) (W : World) (v : Value), sz (.mk k [] use [.mk 2 s a [], .mk 3 [] 0 l]) ≤ 262144 := fun k W v => by
      have := HSZ2.out
      simp only [sz, szs]; omega
    have HSEAL : Hid (∀ W, Below w.heap.size w W → Calls Tryd.prog 35 #[.agg #[.int .i64 2, .string ⟨⟨s⟩⟩, .int .i64 a, .slice none 0 0], .int .i64 use, .agg #[.int .i64 3, .string ⟨#[]⟩, .int .i64 0, .slice A m c]] W fun e w' => ∃ u, e = .returned (.agg #[.int .i64 4, .string ⟨#[]⟩, .int .i64 use, u]) ∧ Below W.heap.size W w' ∧ Rep w' (Lo w') (.mk 4 [] use [.mk 2 s a [], .mk 3 [] 0 l]) (.agg #[.int .i64 4, .string ⟨#[]⟩, .int .i64 use, u])) := by
      intro W h
      refine (Seal_any (.mk 2 s a []) (.mk 3 [] 0 l) _ _ use (Lo W) W (rep_flat _ _ 2 s a HAI.out) (HWH.out W h) (fun _ h => h)).mono ?_
      rintro _ w1 ⟨u, rfl, hb, hnr⟩
      exact ⟨u, rfl, hb, hnr.rep (fun b h2 => Nat.lt_of_lt_of_le h2 hb.size) 4 [] use HUI.out⟩
    have HRSEAL : Hid (∀ W, Below w.heap.size w W → Calls Tryd.prog 36 #[.agg #[.int .i64 2, .string ⟨⟨s⟩⟩, .int .i64 a, .slice none 0 0], .int .i64 use, .agg #[.int .i64 3, .string ⟨#[]⟩, .int .i64 0, .slice A m c]] W fun e w' => ∃ u, e = .returned (.agg #[.int .i64 4, .string ⟨#[]⟩, .int .i64 use, u]) ∧ Below W.heap.size W w' ∧ Rep w' (Lo w') (.mk 4 [] use [.mk 2 s a [], .mk 3 [] 0 l]) (.agg #[.int .i64 4, .string ⟨#[]⟩, .int .i64 use, u])) := by
      intro W h
      refine (refSeal_any (.mk 2 s a []) (.mk 3 [] 0 l) _ _ use (Lo W) W (rep_flat _ _ 2 s a HAI.out) (HWH.out W h) (fun _ h => h)).mono ?_
      rintro _ w1 ⟨u, rfl, hb, hnr⟩
      exact ⟨u, rfl, hb, hnr.rep (fun b h2 => Nat.lt_of_lt_of_le h2 hb.size) 4 [] use HUI.out⟩
    have HSUM : Hid (∀ W, Below w.heap.size w W → Calls Tryd.prog 37 #[.agg #[.int .i64 2, .string ⟨⟨s⟩⟩, .int .i64 a, .slice none 0 0], .int .i64 use, .agg #[.int .i64 3, .string ⟨#[]⟩, .int .i64 0, .slice A m c]] W fun e w' => ∃ u, e = .returned (.agg #[.int .i64 5, .string ⟨#[]⟩, .int .i64 use, u]) ∧ Below W.heap.size W w' ∧ Rep w' (Lo w') (.mk 5 [] use [.mk 2 s a [], .mk 3 [] 0 l]) (.agg #[.int .i64 5, .string ⟨#[]⟩, .int .i64 use, u])) := by
      intro W h
      refine (Sum_any (.mk 2 s a []) (.mk 3 [] 0 l) _ _ use (Lo W) W (rep_flat _ _ 2 s a HAI.out) (HWH.out W h) (fun _ h => h)).mono ?_
      rintro _ w1 ⟨u, rfl, hb, hnr⟩
      exact ⟨u, rfl, hb, hnr.rep (fun b h2 => Nat.lt_of_lt_of_le h2 hb.size) 5 [] use HUI.out⟩
    have HRSUM : Hid (∀ W, Below w.heap.size w W → Calls Tryd.prog 38 #[.agg #[.int .i64 2, .string ⟨⟨s⟩⟩, .int .i64 a, .slice none 0 0], .int .i64 use, .agg #[.int .i64 3, .string ⟨#[]⟩, .int .i64 0, .slice A m c]] W fun e w' => ∃ u, e = .returned (.agg #[.int .i64 5, .string ⟨#[]⟩, .int .i64 use, u]) ∧ Below W.heap.size W w' ∧ Rep w' (Lo w') (.mk 5 [] use [.mk 2 s a [], .mk 3 [] 0 l]) (.agg #[.int .i64 5, .string ⟨#[]⟩, .int .i64 use, u])) := by
      intro W h
      refine (refSum_any (.mk 2 s a []) (.mk 3 [] 0 l) _ _ use (Lo W) W (rep_flat _ _ 2 s a HAI.out) (HWH.out W h) (fun _ h => h)).mono ?_
      rintro _ w1 ⟨u, rfl, hb, hnr⟩
      exact ⟨u, rfl, hb, hnr.rep (fun b h2 => Nat.lt_of_lt_of_le h2 hb.size) 5 [] use HUI.out⟩
    have HSZ4 : Hid (∀ k : Int, sz (.mk k [] use [.mk 2 s a [], .mk 3 [] 0 l]) ≤ 262144) := fun k => HS4 k w10 undef
    clear HS4 HCW HBW9 HB10 HROW HRROW HSZR HLIST HRL
    go_wp2_with fail
    refine wp_region_inv (by kernel_rfl) (fun L act W => ∃ t62 t63 t64 t65 t66 t67 t68 t69 t70 t71 t72 t73 t74 t75 t76 t77 t78 t79 t80 t81 t15, act = { tmps := #[.string ⟨⟨s⟩⟩, .int .i64 a, .slice A m c, .int .i64 use, undef, undef, undef, undef, .bool false, .bool true, .pointer (some ⟨z5, 0, none⟩), .bool false, .pointer (some ⟨z8, 0, none⟩), .bool true, .bool true, t15, .bool true, .bool true, .bool false, .slice A m c, .agg #[.int .i64 3, .string ⟨#[]⟩, .int .i64 0, .slice A m c], .agg #[.int .i64 3, .string ⟨#[]⟩, .int .i64 0, .slice A m c], .bool false, .bool false, undef, .string ⟨⟨s⟩⟩, .int .i64 a, .agg #[.int .i64 2, .string ⟨⟨s⟩⟩, .int .i64 a, .slice none 0 0], .string ⟨⟨s⟩⟩, .agg #[.int .i64 0, .string ⟨⟨s⟩⟩, .int .i64 0, .slice none 0 0], .string ⟨⟨s⟩⟩, .agg #[.int .i64 0, .string ⟨⟨s⟩⟩, .int .i64 0, .slice none 0 0], .bool true, .bool true, .int .i64 a, .agg #[.int .i64 1, .string ⟨#[]⟩, .int .i64 a, .slice none 0 0], .int .i64 a, .agg #[.int .i64 1, .string ⟨#[]⟩, .int .i64 a, .slice none 0 0], .bool true, .bool true, .bool true, .agg #[.int .i64 2, .string ⟨⟨s⟩⟩, .int .i64 a, .slice none 0 0], .string ⟨⟨s⟩⟩, .int .i64 a, .agg #[.int .i64 2, .string ⟨⟨s⟩⟩, .int .i64 a, .slice none 0 0], .bool true, .bool true, .slice A m c, t48, .agg #[.int .i64 3, .string ⟨#[]⟩, .int .i64 0, .slice A m c], .bool true, .bool true, .string ⟨⟨s⟩⟩, .string ⟨⟨s⟩⟩, t54, t55, .string ⟨⟨s⟩⟩, .string ⟨⟨s⟩⟩, t58, t59, .bool true, .bool true, t62, t63, t64, t65, t66, t67, t68, t69, t70, t71, t72, t73, t74, t75, t76, t77, t78, t79, t80, t81, undef, undef, undef, undef, undef, undef, undef, undef, undef, undef], defers := [] } ∧ (L 0 = true → (.agg #[.int .i64 2, .string ⟨⟨s⟩⟩, .int .i64 a, .slice none 0 0] : Value) = t62) ∧ (L 1 = true → (.int .i64 use : Value) = t63) ∧ (L 2 = true → (.agg #[.int .i64 3, .string ⟨#[]⟩, .int .i64 0, .slice A m c] : Value) = t64) ∧ (L 4 = true → (.agg #[.int .i64 2, .string ⟨⟨s⟩⟩, .int .i64 a, .slice none 0 0] : Value) = t66) ∧ (L 5 = true → (.int .i64 use : Value) = t67) ∧ (L 6 = true → (.agg #[.int .i64 3, .string ⟨#[]⟩, .int .i64 0, .slice A m c] : Value) = t68) ∧ (L 8 = true → (.bool true : Value) = t70) ∧ (L 9 = true → (.bool true : Value) = t71) ∧ (L 10 = true → (.agg #[.int .i64 2, .string ⟨⟨s⟩⟩, .int .i64 a, .slice none 0 0] : Value) = t72) ∧ (L 11 = true → (.int .i64 use : Value) = t73) ∧ (L 12 = true → (.agg #[.int .i64 3, .string ⟨#[]⟩, .int .i64 0, .slice A m c] : Value) = t74) ∧ (L 14 = true → (.agg #[.int .i64 2, .string ⟨⟨s⟩⟩, .int .i64 a, .slice none 0 0] : Value) = t76) ∧ (L 15 = true → (.int .i64 use : Value) = t77) ∧ (L 16 = true → (.agg #[.int .i64 3, .string ⟨#[]⟩, .int .i64 0, .slice A m c] : Value) = t78) ∧ (L 18 = true → (.bool true : Value) = t80) ∧ (L 19 = true → (.bool true : Value) = t81) ∧ (L 20 = true → (.bool true : Value) = t15) ∧ (L 20 = false → (undef : Value) = t15) ∧ (Below w10.heap.size w10 W) ∧ (L 3 = true → ∃ u, (.agg #[.int .i64 4, .string ⟨#[]⟩, .int .i64 use, u] : Value) = t65 ∧ Rep W (Lo W) (.mk 4 [] use [.mk 2 s a [], .mk 3 [] 0 l]) t65) ∧ (L 7 = true → ∃ u, (.agg #[.int .i64 4, .string ⟨#[]⟩, .int .i64 use, u] : Value) = t69 ∧ Rep W (Lo W) (.mk 4 [] use [.mk 2 s a [], .mk 3 [] 0 l]) t69) ∧ (L 13 = true → ∃ u, (.agg #[.int .i64 5, .string ⟨#[]⟩, .int .i64 use, u] : Value) = t75 ∧ Rep W (Lo W) (.mk 5 [] use [.mk 2 s a [], .mk 3 [] 0 l]) t75) ∧ (L 17 = true → ∃ u, (.agg #[.int .i64 5, .string ⟨#[]⟩, .int .i64 use, u] : Value) = t79 ∧ Rep W (Lo W) (.mk 5 [] use [.mk 2 s a [], .mk 3 [] 0 l]) t79)) (by kernel_rfl) ?_ ?_ ?_
    · exact ⟨_, _, _, _, _, _, _, _, _, _, _, _, _, _, _, _, _, _, _, _, _, rfl, nofun, nofun, nofun, nofun, nofun, nofun, nofun, nofun, nofun, nofun, nofun, nofun, nofun, nofun, nofun, nofun, nofun, fun _ => rfl, (Below.refl _ _).drew, nofun, nofun, nofun, nofun⟩
    · rintro L _ W i oo ⟨t62, t63, t64, t65, t66, t67, t68, t69, t70, t71, t72, t73, t74, t75, t76, t77, t78, t79, t80, t81, t15, rfl, f0, f1, f2, f4, f5, f6, f8, f9, f10, f11, f12, f14, f15, f16, f18, f19, f20, u20, qb, g3, g7, g13, g17⟩ ho hL hd
      rcases i with _ | _ | _ | _ | _ | _ | _ | _ | _ | _ | _ | _ | _ | _ | _ | _ | _ | _ | _ | _ | _ | i
      · obtain rfl := Option.some.inj ho
        obtain ⟨hbw, ⟨c0, c1, c2, c3⟩, ⟨d0, d1, d2, d3⟩⟩ := HCX.out W qb
        clear hbw
        refine wpOp_step rfl fun K hK => ?_
        have F0X := Lib.hid f0
        have F1X := Lib.hid f1
        have F2X := Lib.hid f2
        have F4X := Lib.hid f4
        have F5X := Lib.hid f5
        have F6X := Lib.hid f6
        have F8X := Lib.hid f8
        have F9X := Lib.hid f9
        have F10X := Lib.hid f10
        have F11X := Lib.hid f11
        have F12X := Lib.hid f12
        have F14X := Lib.hid f14
        have F15X := Lib.hid f15
        have F16X := Lib.hid f16
        have F18X := Lib.hid f18
        have F19X := Lib.hid f19
        have F20X := Lib.hid f20
        have U20X := Lib.hid u20
        have QBX := Lib.hid qb
        have G3X := Lib.hid g3
        have G7X := Lib.hid g7
        have G13X := Lib.hid g13
        have G17X := Lib.hid g17
        clear f0 f1 f2 f4 f5 f6 f8 f9 f10 f11 f12 f14 f15 f16 f18 f19 f20 u20 qb g3 g7 g13 g17 hd ho hL
        go_simp
        refine hK _ _ ?_
        exact ⟨_, _, _, _, _, _, _, _, _, _, _, _, _, _, _, _, _, _, _, _, _, rfl, fun _ => rfl, F1X.out, F2X.out, F4X.out, F5X.out, F6X.out, F8X.out, F9X.out, F10X.out, F11X.out, F12X.out, F14X.out, F15X.out, F16X.out, F18X.out, F19X.out, F20X.out, U20X.out, QBX.out, G3X.out, G7X.out, G13X.out, G17X.out⟩
      · obtain rfl := Option.some.inj ho
        refine wpOp_step rfl fun K hK => ?_
        have F0X := Lib.hid f0
        have F1X := Lib.hid f1
        have F2X := Lib.hid f2
        have F4X := Lib.hid f4
        have F5X := Lib.hid f5
        have F6X := Lib.hid f6
        have F8X := Lib.hid f8
        have F9X := Lib.hid f9
        have F10X := Lib.hid f10
        have F11X := Lib.hid f11
        have F12X := Lib.hid f12
        have F14X := Lib.hid f14
        have F15X := Lib.hid f15
        have F16X := Lib.hid f16
        have F18X := Lib.hid f18
        have F19X := Lib.hid f19
        have F20X := Lib.hid f20
        have U20X := Lib.hid u20
        have QBX := Lib.hid qb
        have G3X := Lib.hid g3
        have G7X := Lib.hid g7
        have G13X := Lib.hid g13
        have G17X := Lib.hid g17
        clear f0 f1 f2 f4 f5 f6 f8 f9 f10 f11 f12 f14 f15 f16 f18 f19 f20 u20 qb g3 g7 g13 g17 hd ho hL
        go_simp
        refine hK _ _ ?_
        exact ⟨_, _, _, _, _, _, _, _, _, _, _, _, _, _, _, _, _, _, _, _, _, rfl, F0X.out, fun _ => rfl, F2X.out, F4X.out, F5X.out, F6X.out, F8X.out, F9X.out, F10X.out, F11X.out, F12X.out, F14X.out, F15X.out, F16X.out, F18X.out, F19X.out, F20X.out, U20X.out, QBX.out, G3X.out, G7X.out, G13X.out, G17X.out⟩
      · obtain rfl := Option.some.inj ho
        obtain ⟨hbw, ⟨c0, c1, c2, c3⟩, ⟨d0, d1, d2, d3⟩⟩ := HCX.out W qb
        clear hbw
        refine wpOp_step rfl fun K hK => ?_
        have F0X := Lib.hid f0
        have F1X := Lib.hid f1
        have F2X := Lib.hid f2
        have F4X := Lib.hid f4
        have F5X := Lib.hid f5
        have F6X := Lib.hid f6
        have F8X := Lib.hid f8
        have F9X := Lib.hid f9
        have F10X := Lib.hid f10
        have F11X := Lib.hid f11
        have F12X := Lib.hid f12
        have F14X := Lib.hid f14
        have F15X := Lib.hid f15
        have F16X := Lib.hid f16
        have F18X := Lib.hid f18
        have F19X := Lib.hid f19
        have F20X := Lib.hid f20
        have U20X := Lib.hid u20
        have QBX := Lib.hid qb
        have G3X := Lib.hid g3
        have G7X := Lib.hid g7
        have G13X := Lib.hid g13
        have G17X := Lib.hid g17
        clear f0 f1 f2 f4 f5 f6 f8 f9 f10 f11 f12 f14 f15 f16 f18 f19 f20 u20 qb g3 g7 g13 g17 hd ho hL
        go_simp
        refine hK _ _ ?_
        exact ⟨_, _, _, _, _, _, _, _, _, _, _, _, _, _, _, _, _, _, _, _, _, rfl, F0X.out, F1X.out, fun _ => rfl, F4X.out, F5X.out, F6X.out, F8X.out, F9X.out, F10X.out, F11X.out, F12X.out, F14X.out, F15X.out, F16X.out, F18X.out, F19X.out, F20X.out, U20X.out, QBX.out, G3X.out, G7X.out, G13X.out, G17X.out⟩
      · obtain rfl := Option.some.inj ho
        have l0 := hd ⟨0, .data⟩ (by simp) rfl
        have l1 := hd ⟨1, .data⟩ (by simp) rfl
        have l2 := hd ⟨2, .data⟩ (by simp) rfl
        obtain rfl := f0 l0
        obtain rfl := f1 l1
        obtain rfl := f2 l2
        have HC := Lib.hid (HSEAL.out W (HCX.out W qb).1)
        refine wpOp_step rfl fun K hK => ?_
        have F0X := Lib.hid f0
        have F1X := Lib.hid f1
        have F2X := Lib.hid f2
        have F4X := Lib.hid f4
        have F5X := Lib.hid f5
        have F6X := Lib.hid f6
        have F8X := Lib.hid f8
        have F9X := Lib.hid f9
        have F10X := Lib.hid f10
        have F11X := Lib.hid f11
        have F12X := Lib.hid f12
        have F14X := Lib.hid f14
        have F15X := Lib.hid f15
        have F16X := Lib.hid f16
        have F18X := Lib.hid f18
        have F19X := Lib.hid f19
        have F20X := Lib.hid f20
        have U20X := Lib.hid u20
        have QBX := Lib.hid qb
        have G3X := Lib.hid g3
        have G7X := Lib.hid g7
        have G13X := Lib.hid g13
        have G17X := Lib.hid g17
        clear f0 f1 f2 f4 f5 f6 f8 f9 f10 f11 f12 f14 f15 f16 f18 f19 f20 u20 qb g3 g7 g13 g17 hd ho hL l0 l1 l2
        go_simp
        refine HC.out.mono ?_
        rintro _ w1 ⟨u, rfl, hb1, hrep1⟩
        refine hK _ _ ?_
        exact ⟨_, _, _, _, _, _, _, _, _, _, _, _, _, _, _, _, _, _, _, _, _, rfl, F0X.out, F1X.out, F2X.out, F4X.out, F5X.out, F6X.out, F8X.out, F9X.out, F10X.out, F11X.out, F12X.out, F14X.out, F15X.out, F16X.out, F18X.out, F19X.out, F20X.out, U20X.out, QBX.out.trans (hb1.mono QBX.out.size), fun _ => ⟨_, rfl, hrep1⟩, fun h => (by obtain ⟨u, e, h2⟩ := G7X.out h; exact ⟨u, e, h2.lo hb1⟩), fun h => (by obtain ⟨u, e, h2⟩ := G13X.out h; exact ⟨u, e, h2.lo hb1⟩), fun h => (by obtain ⟨u, e, h2⟩ := G17X.out h; exact ⟨u, e, h2.lo hb1⟩)⟩
      · obtain rfl := Option.some.inj ho
        obtain ⟨hbw, ⟨c0, c1, c2, c3⟩, ⟨d0, d1, d2, d3⟩⟩ := HCX.out W qb
        clear hbw
        refine wpOp_step rfl fun K hK => ?_
        have F0X := Lib.hid f0
        have F1X := Lib.hid f1
        have F2X := Lib.hid f2
        have F4X := Lib.hid f4
        have F5X := Lib.hid f5
        have F6X := Lib.hid f6
        have F8X := Lib.hid f8
        have F9X := Lib.hid f9
        have F10X := Lib.hid f10
        have F11X := Lib.hid f11
        have F12X := Lib.hid f12
        have F14X := Lib.hid f14
        have F15X := Lib.hid f15
        have F16X := Lib.hid f16
        have F18X := Lib.hid f18
        have F19X := Lib.hid f19
        have F20X := Lib.hid f20
        have U20X := Lib.hid u20
        have QBX := Lib.hid qb
        have G3X := Lib.hid g3
        have G7X := Lib.hid g7
        have G13X := Lib.hid g13
        have G17X := Lib.hid g17
        clear f0 f1 f2 f4 f5 f6 f8 f9 f10 f11 f12 f14 f15 f16 f18 f19 f20 u20 qb g3 g7 g13 g17 hd ho hL
        go_simp
        refine hK _ _ ?_
        exact ⟨_, _, _, _, _, _, _, _, _, _, _, _, _, _, _, _, _, _, _, _, _, rfl, F0X.out, F1X.out, F2X.out, fun _ => rfl, F5X.out, F6X.out, F8X.out, F9X.out, F10X.out, F11X.out, F12X.out, F14X.out, F15X.out, F16X.out, F18X.out, F19X.out, F20X.out, U20X.out, QBX.out, G3X.out, G7X.out, G13X.out, G17X.out⟩
      · obtain rfl := Option.some.inj ho
        refine wpOp_step rfl fun K hK => ?_
        have F0X := Lib.hid f0
        have F1X := Lib.hid f1
        have F2X := Lib.hid f2
        have F4X := Lib.hid f4
        have F5X := Lib.hid f5
        have F6X := Lib.hid f6
        have F8X := Lib.hid f8
        have F9X := Lib.hid f9
        have F10X := Lib.hid f10
        have F11X := Lib.hid f11
        have F12X := Lib.hid f12
        have F14X := Lib.hid f14
        have F15X := Lib.hid f15
        have F16X := Lib.hid f16
        have F18X := Lib.hid f18
        have F19X := Lib.hid f19
        have F20X := Lib.hid f20
        have U20X := Lib.hid u20
        have QBX := Lib.hid qb
        have G3X := Lib.hid g3
        have G7X := Lib.hid g7
        have G13X := Lib.hid g13
        have G17X := Lib.hid g17
        clear f0 f1 f2 f4 f5 f6 f8 f9 f10 f11 f12 f14 f15 f16 f18 f19 f20 u20 qb g3 g7 g13 g17 hd ho hL
        go_simp
        refine hK _ _ ?_
        exact ⟨_, _, _, _, _, _, _, _, _, _, _, _, _, _, _, _, _, _, _, _, _, rfl, F0X.out, F1X.out, F2X.out, F4X.out, fun _ => rfl, F6X.out, F8X.out, F9X.out, F10X.out, F11X.out, F12X.out, F14X.out, F15X.out, F16X.out, F18X.out, F19X.out, F20X.out, U20X.out, QBX.out, G3X.out, G7X.out, G13X.out, G17X.out⟩
      · obtain rfl := Option.some.inj ho
        obtain ⟨hbw, ⟨c0, c1, c2, c3⟩, ⟨d0, d1, d2, d3⟩⟩ := HCX.out W qb
        clear hbw
        refine wpOp_step rfl fun K hK => ?_
        have F0X := Lib.hid f0
        have F1X := Lib.hid f1
        have F2X := Lib.hid f2
        have F4X := Lib.hid f4
        have F5X := Lib.hid f5
        have F6X := Lib.hid f6
        have F8X := Lib.hid f8
        have F9X := Lib.hid f9
        have F10X := Lib.hid f10
        have F11X := Lib.hid f11
        have F12X := Lib.hid f12
        have F14X := Lib.hid f14
        have F15X := Lib.hid f15
        have F16X := Lib.hid f16
        have F18X := Lib.hid f18
        have F19X := Lib.hid f19
        have F20X := Lib.hid f20
        have U20X := Lib.hid u20
        have QBX := Lib.hid qb
        have G3X := Lib.hid g3
        have G7X := Lib.hid g7
        have G13X := Lib.hid g13
        have G17X := Lib.hid g17
        clear f0 f1 f2 f4 f5 f6 f8 f9 f10 f11 f12 f14 f15 f16 f18 f19 f20 u20 qb g3 g7 g13 g17 hd ho hL
        go_simp
        refine hK _ _ ?_
        exact ⟨_, _, _, _, _, _, _, _, _, _, _, _, _, _, _, _, _, _, _, _, _, rfl, F0X.out, F1X.out, F2X.out, F4X.out, F5X.out, fun _ => rfl, F8X.out, F9X.out, F10X.out, F11X.out, F12X.out, F14X.out, F15X.out, F16X.out, F18X.out, F19X.out, F20X.out, U20X.out, QBX.out, G3X.out, G7X.out, G13X.out, G17X.out⟩
      · obtain rfl := Option.some.inj ho
        have l4 := hd ⟨4, .data⟩ (by simp) rfl
        have l5 := hd ⟨5, .data⟩ (by simp) rfl
        have l6 := hd ⟨6, .data⟩ (by simp) rfl
        obtain rfl := f4 l4
        obtain rfl := f5 l5
        obtain rfl := f6 l6
        have HC := Lib.hid (HRSEAL.out W (HCX.out W qb).1)
        refine wpOp_step rfl fun K hK => ?_
        have F0X := Lib.hid f0
        have F1X := Lib.hid f1
        have F2X := Lib.hid f2
        have F4X := Lib.hid f4
        have F5X := Lib.hid f5
        have F6X := Lib.hid f6
        have F8X := Lib.hid f8
        have F9X := Lib.hid f9
        have F10X := Lib.hid f10
        have F11X := Lib.hid f11
        have F12X := Lib.hid f12
        have F14X := Lib.hid f14
        have F15X := Lib.hid f15
        have F16X := Lib.hid f16
        have F18X := Lib.hid f18
        have F19X := Lib.hid f19
        have F20X := Lib.hid f20
        have U20X := Lib.hid u20
        have QBX := Lib.hid qb
        have G3X := Lib.hid g3
        have G7X := Lib.hid g7
        have G13X := Lib.hid g13
        have G17X := Lib.hid g17
        clear f0 f1 f2 f4 f5 f6 f8 f9 f10 f11 f12 f14 f15 f16 f18 f19 f20 u20 qb g3 g7 g13 g17 hd ho hL l4 l5 l6
        go_simp
        refine HC.out.mono ?_
        rintro _ w1 ⟨u, rfl, hb1, hrep1⟩
        refine hK _ _ ?_
        exact ⟨_, _, _, _, _, _, _, _, _, _, _, _, _, _, _, _, _, _, _, _, _, rfl, F0X.out, F1X.out, F2X.out, F4X.out, F5X.out, F6X.out, F8X.out, F9X.out, F10X.out, F11X.out, F12X.out, F14X.out, F15X.out, F16X.out, F18X.out, F19X.out, F20X.out, U20X.out, QBX.out.trans (hb1.mono QBX.out.size), fun h => (by obtain ⟨u, e, h2⟩ := G3X.out h; exact ⟨u, e, h2.lo hb1⟩), fun _ => ⟨_, rfl, hrep1⟩, fun h => (by obtain ⟨u, e, h2⟩ := G13X.out h; exact ⟨u, e, h2.lo hb1⟩), fun h => (by obtain ⟨u, e, h2⟩ := G17X.out h; exact ⟨u, e, h2.lo hb1⟩)⟩
      · obtain rfl := Option.some.inj ho
        have l3 := hd ⟨3, .data⟩ (by simp) rfl
        have l7 := hd ⟨7, .data⟩ (by simp) rfl
        obtain ⟨ux, rfl, hrx⟩ := g3 l3
        obtain ⟨uy, rfl, hry⟩ := g7 l7
        have HC := Lib.hid (HSAME.out W _ _ _ (HSZ4.out 4) hrx hry)
        refine wpOp_step rfl fun K hK => ?_
        have F0X := Lib.hid f0
        have F1X := Lib.hid f1
        have F2X := Lib.hid f2
        have F4X := Lib.hid f4
        have F5X := Lib.hid f5
        have F6X := Lib.hid f6
        have F8X := Lib.hid f8
        have F9X := Lib.hid f9
        have F10X := Lib.hid f10
        have F11X := Lib.hid f11
        have F12X := Lib.hid f12
        have F14X := Lib.hid f14
        have F15X := Lib.hid f15
        have F16X := Lib.hid f16
        have F18X := Lib.hid f18
        have F19X := Lib.hid f19
        have F20X := Lib.hid f20
        have U20X := Lib.hid u20
        have QBX := Lib.hid qb
        have G3X := Lib.hid g3
        have G7X := Lib.hid g7
        have G13X := Lib.hid g13
        have G17X := Lib.hid g17
        clear f0 f1 f2 f4 f5 f6 f8 f9 f10 f11 f12 f14 f15 f16 f18 f19 f20 u20 qb g3 g7 g13 g17 hd ho hL l3 l7 hrx hry
        go_simp
        refine HC.out.mono ?_
        rintro _ w1 ⟨rfl, hb1⟩
        refine hK _ _ ?_
        exact ⟨_, _, _, _, _, _, _, _, _, _, _, _, _, _, _, _, _, _, _, _, _, rfl, F0X.out, F1X.out, F2X.out, F4X.out, F5X.out, F6X.out, fun _ => rfl, F9X.out, F10X.out, F11X.out, F12X.out, F14X.out, F15X.out, F16X.out, F18X.out, F19X.out, F20X.out, U20X.out, QBX.out.trans (hb1.mono QBX.out.size), fun h => (by obtain ⟨u, e, h2⟩ := G3X.out h; exact ⟨u, e, h2.lo hb1⟩), fun h => (by obtain ⟨u, e, h2⟩ := G7X.out h; exact ⟨u, e, h2.lo hb1⟩), fun h => (by obtain ⟨u, e, h2⟩ := G13X.out h; exact ⟨u, e, h2.lo hb1⟩), fun h => (by obtain ⟨u, e, h2⟩ := G17X.out h; exact ⟨u, e, h2.lo hb1⟩)⟩
      · obtain rfl := Option.some.inj ho
        have l8 := hd ⟨8, .data⟩ (by simp) rfl
        obtain rfl := f8 l8
        refine wpOp_step rfl fun K hK => ?_
        have F0X := Lib.hid f0
        have F1X := Lib.hid f1
        have F2X := Lib.hid f2
        have F4X := Lib.hid f4
        have F5X := Lib.hid f5
        have F6X := Lib.hid f6
        have F8X := Lib.hid f8
        have F9X := Lib.hid f9
        have F10X := Lib.hid f10
        have F11X := Lib.hid f11
        have F12X := Lib.hid f12
        have F14X := Lib.hid f14
        have F15X := Lib.hid f15
        have F16X := Lib.hid f16
        have F18X := Lib.hid f18
        have F19X := Lib.hid f19
        have F20X := Lib.hid f20
        have U20X := Lib.hid u20
        have QBX := Lib.hid qb
        have G3X := Lib.hid g3
        have G7X := Lib.hid g7
        have G13X := Lib.hid g13
        have G17X := Lib.hid g17
        clear f0 f1 f2 f4 f5 f6 f8 f9 f10 f11 f12 f14 f15 f16 f18 f19 f20 u20 qb g3 g7 g13 g17 hd ho hL l8
        go_simp
        refine hK _ _ ?_
        exact ⟨_, _, _, _, _, _, _, _, _, _, _, _, _, _, _, _, _, _, _, _, _, rfl, F0X.out, F1X.out, F2X.out, F4X.out, F5X.out, F6X.out, F8X.out, fun _ => rfl, F10X.out, F11X.out, F12X.out, F14X.out, F15X.out, F16X.out, F18X.out, F19X.out, F20X.out, U20X.out, QBX.out, G3X.out, G7X.out, G13X.out, G17X.out⟩
      · obtain rfl := Option.some.inj ho
        have l9 := hd ⟨9, .guard⟩ (by simp) rfl
        obtain rfl := f9 l9
        obtain ⟨hbw, ⟨c0, c1, c2, c3⟩, ⟨d0, d1, d2, d3⟩⟩ := HCX.out W qb
        clear hbw
        refine wpOp_step rfl fun K hK => ?_
        have F0X := Lib.hid f0
        have F1X := Lib.hid f1
        have F2X := Lib.hid f2
        have F4X := Lib.hid f4
        have F5X := Lib.hid f5
        have F6X := Lib.hid f6
        have F8X := Lib.hid f8
        have F9X := Lib.hid f9
        have F10X := Lib.hid f10
        have F11X := Lib.hid f11
        have F12X := Lib.hid f12
        have F14X := Lib.hid f14
        have F15X := Lib.hid f15
        have F16X := Lib.hid f16
        have F18X := Lib.hid f18
        have F19X := Lib.hid f19
        have F20X := Lib.hid f20
        have U20X := Lib.hid u20
        have QBX := Lib.hid qb
        have G3X := Lib.hid g3
        have G7X := Lib.hid g7
        have G13X := Lib.hid g13
        have G17X := Lib.hid g17
        clear f0 f1 f2 f4 f5 f6 f8 f9 f10 f11 f12 f14 f15 f16 f18 f19 f20 u20 qb g3 g7 g13 g17 hd ho hL l9
        go_simp
        refine hK _ _ ?_
        exact ⟨_, _, _, _, _, _, _, _, _, _, _, _, _, _, _, _, _, _, _, _, _, rfl, F0X.out, F1X.out, F2X.out, F4X.out, F5X.out, F6X.out, F8X.out, F9X.out, fun _ => rfl, F11X.out, F12X.out, F14X.out, F15X.out, F16X.out, F18X.out, F19X.out, F20X.out, U20X.out, QBX.out, G3X.out, G7X.out, G13X.out, G17X.out⟩
      · obtain rfl := Option.some.inj ho
        have l9 := hd ⟨9, .guard⟩ (by simp) rfl
        obtain rfl := f9 l9
        refine wpOp_step rfl fun K hK => ?_
        have F0X := Lib.hid f0
        have F1X := Lib.hid f1
        have F2X := Lib.hid f2
        have F4X := Lib.hid f4
        have F5X := Lib.hid f5
        have F6X := Lib.hid f6
        have F8X := Lib.hid f8
        have F9X := Lib.hid f9
        have F10X := Lib.hid f10
        have F11X := Lib.hid f11
        have F12X := Lib.hid f12
        have F14X := Lib.hid f14
        have F15X := Lib.hid f15
        have F16X := Lib.hid f16
        have F18X := Lib.hid f18
        have F19X := Lib.hid f19
        have F20X := Lib.hid f20
        have U20X := Lib.hid u20
        have QBX := Lib.hid qb
        have G3X := Lib.hid g3
        have G7X := Lib.hid g7
        have G13X := Lib.hid g13
        have G17X := Lib.hid g17
        clear f0 f1 f2 f4 f5 f6 f8 f9 f10 f11 f12 f14 f15 f16 f18 f19 f20 u20 qb g3 g7 g13 g17 hd ho hL l9
        go_simp
        refine hK _ _ ?_
        exact ⟨_, _, _, _, _, _, _, _, _, _, _, _, _, _, _, _, _, _, _, _, _, rfl, F0X.out, F1X.out, F2X.out, F4X.out, F5X.out, F6X.out, F8X.out, F9X.out, F10X.out, fun _ => rfl, F12X.out, F14X.out, F15X.out, F16X.out, F18X.out, F19X.out, F20X.out, U20X.out, QBX.out, G3X.out, G7X.out, G13X.out, G17X.out⟩
      · obtain rfl := Option.some.inj ho
        have l9 := hd ⟨9, .guard⟩ (by simp) rfl
        obtain rfl := f9 l9
        obtain ⟨hbw, ⟨c0, c1, c2, c3⟩, ⟨d0, d1, d2, d3⟩⟩ := HCX.out W qb
        clear hbw
        refine wpOp_step rfl fun K hK => ?_
        have F0X := Lib.hid f0
        have F1X := Lib.hid f1
        have F2X := Lib.hid f2
        have F4X := Lib.hid f4
        have F5X := Lib.hid f5
        have F6X := Lib.hid f6
        have F8X := Lib.hid f8
        have F9X := Lib.hid f9
        have F10X := Lib.hid f10
        have F11X := Lib.hid f11
        have F12X := Lib.hid f12
        have F14X := Lib.hid f14
        have F15X := Lib.hid f15
        have F16X := Lib.hid f16
        have F18X := Lib.hid f18
        have F19X := Lib.hid f19
        have F20X := Lib.hid f20
        have U20X := Lib.hid u20
        have QBX := Lib.hid qb
        have G3X := Lib.hid g3
        have G7X := Lib.hid g7
        have G13X := Lib.hid g13
        have G17X := Lib.hid g17
        clear f0 f1 f2 f4 f5 f6 f8 f9 f10 f11 f12 f14 f15 f16 f18 f19 f20 u20 qb g3 g7 g13 g17 hd ho hL l9
        go_simp
        refine hK _ _ ?_
        exact ⟨_, _, _, _, _, _, _, _, _, _, _, _, _, _, _, _, _, _, _, _, _, rfl, F0X.out, F1X.out, F2X.out, F4X.out, F5X.out, F6X.out, F8X.out, F9X.out, F10X.out, F11X.out, fun _ => rfl, F14X.out, F15X.out, F16X.out, F18X.out, F19X.out, F20X.out, U20X.out, QBX.out, G3X.out, G7X.out, G13X.out, G17X.out⟩
      · obtain rfl := Option.some.inj ho
        have l10 := hd ⟨10, .data⟩ (by simp) rfl
        have l11 := hd ⟨11, .data⟩ (by simp) rfl
        have l12 := hd ⟨12, .data⟩ (by simp) rfl
        have l9 := hd ⟨9, .guard⟩ (by simp) rfl
        obtain rfl := f10 l10
        obtain rfl := f11 l11
        obtain rfl := f12 l12
        obtain rfl := f9 l9
        have HC := Lib.hid (HSUM.out W (HCX.out W qb).1)
        refine wpOp_step rfl fun K hK => ?_
        have F0X := Lib.hid f0
        have F1X := Lib.hid f1
        have F2X := Lib.hid f2
        have F4X := Lib.hid f4
        have F5X := Lib.hid f5
        have F6X := Lib.hid f6
        have F8X := Lib.hid f8
        have F9X := Lib.hid f9
        have F10X := Lib.hid f10
        have F11X := Lib.hid f11
        have F12X := Lib.hid f12
        have F14X := Lib.hid f14
        have F15X := Lib.hid f15
        have F16X := Lib.hid f16
        have F18X := Lib.hid f18
        have F19X := Lib.hid f19
        have F20X := Lib.hid f20
        have U20X := Lib.hid u20
        have QBX := Lib.hid qb
        have G3X := Lib.hid g3
        have G7X := Lib.hid g7
        have G13X := Lib.hid g13
        have G17X := Lib.hid g17
        clear f0 f1 f2 f4 f5 f6 f8 f9 f10 f11 f12 f14 f15 f16 f18 f19 f20 u20 qb g3 g7 g13 g17 hd ho hL l10 l11 l12 l9
        go_simp
        refine HC.out.mono ?_
        rintro _ w1 ⟨u, rfl, hb1, hrep1⟩
        refine hK _ _ ?_
        exact ⟨_, _, _, _, _, _, _, _, _, _, _, _, _, _, _, _, _, _, _, _, _, rfl, F0X.out, F1X.out, F2X.out, F4X.out, F5X.out, F6X.out, F8X.out, F9X.out, F10X.out, F11X.out, F12X.out, F14X.out, F15X.out, F16X.out, F18X.out, F19X.out, F20X.out, U20X.out, QBX.out.trans (hb1.mono QBX.out.size), fun h => (by obtain ⟨u, e, h2⟩ := G3X.out h; exact ⟨u, e, h2.lo hb1⟩), fun h => (by obtain ⟨u, e, h2⟩ := G7X.out h; exact ⟨u, e, h2.lo hb1⟩), fun _ => ⟨_, rfl, hrep1⟩, fun h => (by obtain ⟨u, e, h2⟩ := G17X.out h; exact ⟨u, e, h2.lo hb1⟩)⟩
      · obtain rfl := Option.some.inj ho
        have l9 := hd ⟨9, .guard⟩ (by simp) rfl
        obtain rfl := f9 l9
        obtain ⟨hbw, ⟨c0, c1, c2, c3⟩, ⟨d0, d1, d2, d3⟩⟩ := HCX.out W qb
        clear hbw
        refine wpOp_step rfl fun K hK => ?_
        have F0X := Lib.hid f0
        have F1X := Lib.hid f1
        have F2X := Lib.hid f2
        have F4X := Lib.hid f4
        have F5X := Lib.hid f5
        have F6X := Lib.hid f6
        have F8X := Lib.hid f8
        have F9X := Lib.hid f9
        have F10X := Lib.hid f10
        have F11X := Lib.hid f11
        have F12X := Lib.hid f12
        have F14X := Lib.hid f14
        have F15X := Lib.hid f15
        have F16X := Lib.hid f16
        have F18X := Lib.hid f18
        have F19X := Lib.hid f19
        have F20X := Lib.hid f20
        have U20X := Lib.hid u20
        have QBX := Lib.hid qb
        have G3X := Lib.hid g3
        have G7X := Lib.hid g7
        have G13X := Lib.hid g13
        have G17X := Lib.hid g17
        clear f0 f1 f2 f4 f5 f6 f8 f9 f10 f11 f12 f14 f15 f16 f18 f19 f20 u20 qb g3 g7 g13 g17 hd ho hL l9
        go_simp
        refine hK _ _ ?_
        exact ⟨_, _, _, _, _, _, _, _, _, _, _, _, _, _, _, _, _, _, _, _, _, rfl, F0X.out, F1X.out, F2X.out, F4X.out, F5X.out, F6X.out, F8X.out, F9X.out, F10X.out, F11X.out, F12X.out, fun _ => rfl, F15X.out, F16X.out, F18X.out, F19X.out, F20X.out, U20X.out, QBX.out, G3X.out, G7X.out, G13X.out, G17X.out⟩
      · obtain rfl := Option.some.inj ho
        have l9 := hd ⟨9, .guard⟩ (by simp) rfl
        obtain rfl := f9 l9
        refine wpOp_step rfl fun K hK => ?_
        have F0X := Lib.hid f0
        have F1X := Lib.hid f1
        have F2X := Lib.hid f2
        have F4X := Lib.hid f4
        have F5X := Lib.hid f5
        have F6X := Lib.hid f6
        have F8X := Lib.hid f8
        have F9X := Lib.hid f9
        have F10X := Lib.hid f10
        have F11X := Lib.hid f11
        have F12X := Lib.hid f12
        have F14X := Lib.hid f14
        have F15X := Lib.hid f15
        have F16X := Lib.hid f16
        have F18X := Lib.hid f18
        have F19X := Lib.hid f19
        have F20X := Lib.hid f20
        have U20X := Lib.hid u20
        have QBX := Lib.hid qb
        have G3X := Lib.hid g3
        have G7X := Lib.hid g7
        have G13X := Lib.hid g13
        have G17X := Lib.hid g17
        clear f0 f1 f2 f4 f5 f6 f8 f9 f10 f11 f12 f14 f15 f16 f18 f19 f20 u20 qb g3 g7 g13 g17 hd ho hL l9
        go_simp
        refine hK _ _ ?_
        exact ⟨_, _, _, _, _, _, _, _, _, _, _, _, _, _, _, _, _, _, _, _, _, rfl, F0X.out, F1X.out, F2X.out, F4X.out, F5X.out, F6X.out, F8X.out, F9X.out, F10X.out, F11X.out, F12X.out, F14X.out, fun _ => rfl, F16X.out, F18X.out, F19X.out, F20X.out, U20X.out, QBX.out, G3X.out, G7X.out, G13X.out, G17X.out⟩
      · obtain rfl := Option.some.inj ho
        have l9 := hd ⟨9, .guard⟩ (by simp) rfl
        obtain rfl := f9 l9
        obtain ⟨hbw, ⟨c0, c1, c2, c3⟩, ⟨d0, d1, d2, d3⟩⟩ := HCX.out W qb
        clear hbw
        refine wpOp_step rfl fun K hK => ?_
        have F0X := Lib.hid f0
        have F1X := Lib.hid f1
        have F2X := Lib.hid f2
        have F4X := Lib.hid f4
        have F5X := Lib.hid f5
        have F6X := Lib.hid f6
        have F8X := Lib.hid f8
        have F9X := Lib.hid f9
        have F10X := Lib.hid f10
        have F11X := Lib.hid f11
        have F12X := Lib.hid f12
        have F14X := Lib.hid f14
        have F15X := Lib.hid f15
        have F16X := Lib.hid f16
        have F18X := Lib.hid f18
        have F19X := Lib.hid f19
        have F20X := Lib.hid f20
        have U20X := Lib.hid u20
        have QBX := Lib.hid qb
        have G3X := Lib.hid g3
        have G7X := Lib.hid g7
        have G13X := Lib.hid g13
        have G17X := Lib.hid g17
        clear f0 f1 f2 f4 f5 f6 f8 f9 f10 f11 f12 f14 f15 f16 f18 f19 f20 u20 qb g3 g7 g13 g17 hd ho hL l9
        go_simp
        refine hK _ _ ?_
        exact ⟨_, _, _, _, _, _, _, _, _, _, _, _, _, _, _, _, _, _, _, _, _, rfl, F0X.out, F1X.out, F2X.out, F4X.out, F5X.out, F6X.out, F8X.out, F9X.out, F10X.out, F11X.out, F12X.out, F14X.out, F15X.out, fun _ => rfl, F18X.out, F19X.out, F20X.out, U20X.out, QBX.out, G3X.out, G7X.out, G13X.out, G17X.out⟩
      · obtain rfl := Option.some.inj ho
        have l14 := hd ⟨14, .data⟩ (by simp) rfl
        have l15 := hd ⟨15, .data⟩ (by simp) rfl
        have l16 := hd ⟨16, .data⟩ (by simp) rfl
        have l9 := hd ⟨9, .guard⟩ (by simp) rfl
        obtain rfl := f14 l14
        obtain rfl := f15 l15
        obtain rfl := f16 l16
        obtain rfl := f9 l9
        have HC := Lib.hid (HRSUM.out W (HCX.out W qb).1)
        refine wpOp_step rfl fun K hK => ?_
        have F0X := Lib.hid f0
        have F1X := Lib.hid f1
        have F2X := Lib.hid f2
        have F4X := Lib.hid f4
        have F5X := Lib.hid f5
        have F6X := Lib.hid f6
        have F8X := Lib.hid f8
        have F9X := Lib.hid f9
        have F10X := Lib.hid f10
        have F11X := Lib.hid f11
        have F12X := Lib.hid f12
        have F14X := Lib.hid f14
        have F15X := Lib.hid f15
        have F16X := Lib.hid f16
        have F18X := Lib.hid f18
        have F19X := Lib.hid f19
        have F20X := Lib.hid f20
        have U20X := Lib.hid u20
        have QBX := Lib.hid qb
        have G3X := Lib.hid g3
        have G7X := Lib.hid g7
        have G13X := Lib.hid g13
        have G17X := Lib.hid g17
        clear f0 f1 f2 f4 f5 f6 f8 f9 f10 f11 f12 f14 f15 f16 f18 f19 f20 u20 qb g3 g7 g13 g17 hd ho hL l14 l15 l16 l9
        go_simp
        refine HC.out.mono ?_
        rintro _ w1 ⟨u, rfl, hb1, hrep1⟩
        refine hK _ _ ?_
        exact ⟨_, _, _, _, _, _, _, _, _, _, _, _, _, _, _, _, _, _, _, _, _, rfl, F0X.out, F1X.out, F2X.out, F4X.out, F5X.out, F6X.out, F8X.out, F9X.out, F10X.out, F11X.out, F12X.out, F14X.out, F15X.out, F16X.out, F18X.out, F19X.out, F20X.out, U20X.out, QBX.out.trans (hb1.mono QBX.out.size), fun h => (by obtain ⟨u, e, h2⟩ := G3X.out h; exact ⟨u, e, h2.lo hb1⟩), fun h => (by obtain ⟨u, e, h2⟩ := G7X.out h; exact ⟨u, e, h2.lo hb1⟩), fun h => (by obtain ⟨u, e, h2⟩ := G13X.out h; exact ⟨u, e, h2.lo hb1⟩), fun _ => ⟨_, rfl, hrep1⟩⟩
      · obtain rfl := Option.some.inj ho
        have l13 := hd ⟨13, .data⟩ (by simp) rfl
        have l17 := hd ⟨17, .data⟩ (by simp) rfl
        have l9 := hd ⟨9, .guard⟩ (by simp) rfl
        obtain rfl := f9 l9
        obtain ⟨ux, rfl, hrx⟩ := g13 l13
        obtain ⟨uy, rfl, hry⟩ := g17 l17
        have HC := Lib.hid (HSAME.out W _ _ _ (HSZ4.out 5) hrx hry)
        refine wpOp_step rfl fun K hK => ?_
        have F0X := Lib.hid f0
        have F1X := Lib.hid f1
        have F2X := Lib.hid f2
        have F4X := Lib.hid f4
        have F5X := Lib.hid f5
        have F6X := Lib.hid f6
        have F8X := Lib.hid f8
        have F9X := Lib.hid f9
        have F10X := Lib.hid f10
        have F11X := Lib.hid f11
        have F12X := Lib.hid f12
        have F14X := Lib.hid f14
        have F15X := Lib.hid f15
        have F16X := Lib.hid f16
        have F18X := Lib.hid f18
        have F19X := Lib.hid f19
        have F20X := Lib.hid f20
        have U20X := Lib.hid u20
        have QBX := Lib.hid qb
        have G3X := Lib.hid g3
        have G7X := Lib.hid g7
        have G13X := Lib.hid g13
        have G17X := Lib.hid g17
        clear f0 f1 f2 f4 f5 f6 f8 f9 f10 f11 f12 f14 f15 f16 f18 f19 f20 u20 qb g3 g7 g13 g17 hd ho hL l13 l17 l9 hrx hry
        go_simp
        refine HC.out.mono ?_
        rintro _ w1 ⟨rfl, hb1⟩
        refine hK _ _ ?_
        exact ⟨_, _, _, _, _, _, _, _, _, _, _, _, _, _, _, _, _, _, _, _, _, rfl, F0X.out, F1X.out, F2X.out, F4X.out, F5X.out, F6X.out, F8X.out, F9X.out, F10X.out, F11X.out, F12X.out, F14X.out, F15X.out, F16X.out, fun _ => rfl, F19X.out, F20X.out, U20X.out, QBX.out.trans (hb1.mono QBX.out.size), fun h => (by obtain ⟨u, e, h2⟩ := G3X.out h; exact ⟨u, e, h2.lo hb1⟩), fun h => (by obtain ⟨u, e, h2⟩ := G7X.out h; exact ⟨u, e, h2.lo hb1⟩), fun h => (by obtain ⟨u, e, h2⟩ := G13X.out h; exact ⟨u, e, h2.lo hb1⟩), fun h => (by obtain ⟨u, e, h2⟩ := G17X.out h; exact ⟨u, e, h2.lo hb1⟩)⟩
      · obtain rfl := Option.some.inj ho
        have l9 := hd ⟨9, .data⟩ (by simp) rfl
        have l18 := hd ⟨18, .data⟩ (by simp) rfl
        obtain rfl := f9 l9
        obtain rfl := f18 l18
        refine wpOp_step rfl fun K hK => ?_
        have F0X := Lib.hid f0
        have F1X := Lib.hid f1
        have F2X := Lib.hid f2
        have F4X := Lib.hid f4
        have F5X := Lib.hid f5
        have F6X := Lib.hid f6
        have F8X := Lib.hid f8
        have F9X := Lib.hid f9
        have F10X := Lib.hid f10
        have F11X := Lib.hid f11
        have F12X := Lib.hid f12
        have F14X := Lib.hid f14
        have F15X := Lib.hid f15
        have F16X := Lib.hid f16
        have F18X := Lib.hid f18
        have F19X := Lib.hid f19
        have F20X := Lib.hid f20
        have U20X := Lib.hid u20
        have QBX := Lib.hid qb
        have G3X := Lib.hid g3
        have G7X := Lib.hid g7
        have G13X := Lib.hid g13
        have G17X := Lib.hid g17
        clear f0 f1 f2 f4 f5 f6 f8 f9 f10 f11 f12 f14 f15 f16 f18 f19 f20 u20 qb g3 g7 g13 g17 hd ho hL l9 l18
        go_simp
        refine hK _ _ ?_
        exact ⟨_, _, _, _, _, _, _, _, _, _, _, _, _, _, _, _, _, _, _, _, _, rfl, F0X.out, F1X.out, F2X.out, F4X.out, F5X.out, F6X.out, F8X.out, F9X.out, F10X.out, F11X.out, F12X.out, F14X.out, F15X.out, F16X.out, F18X.out, fun _ => rfl, F20X.out, U20X.out, QBX.out, G3X.out, G7X.out, G13X.out, G17X.out⟩
      · obtain rfl := Option.some.inj ho
        have l19 := hd ⟨19, .data⟩ (by simp) rfl
        obtain rfl := f19 l19
        refine wpOp_step rfl fun K hK => ?_
        have F0X := Lib.hid f0
        have F1X := Lib.hid f1
        have F2X := Lib.hid f2
        have F4X := Lib.hid f4
        have F5X := Lib.hid f5
        have F6X := Lib.hid f6
        have F8X := Lib.hid f8
        have F9X := Lib.hid f9
        have F10X := Lib.hid f10
        have F11X := Lib.hid f11
        have F12X := Lib.hid f12
        have F14X := Lib.hid f14
        have F15X := Lib.hid f15
        have F16X := Lib.hid f16
        have F18X := Lib.hid f18
        have F19X := Lib.hid f19
        have F20X := Lib.hid f20
        have U20X := Lib.hid u20
        have QBX := Lib.hid qb
        have G3X := Lib.hid g3
        have G7X := Lib.hid g7
        have G13X := Lib.hid g13
        have G17X := Lib.hid g17
        clear f0 f1 f2 f4 f5 f6 f8 f9 f10 f11 f12 f14 f15 f16 f18 f19 f20 u20 qb g3 g7 g13 g17 hd ho hL l19
        go_simp
        refine hK _ _ ?_
        exact ⟨_, _, _, _, _, _, _, _, _, _, _, _, _, _, _, _, _, _, _, _, _, rfl, F0X.out, F1X.out, F2X.out, F4X.out, F5X.out, F6X.out, F8X.out, F9X.out, F10X.out, F11X.out, F12X.out, F14X.out, F15X.out, F16X.out, F18X.out, F19X.out, fun _ => rfl, nofun, QBX.out, G3X.out, G7X.out, G13X.out, G17X.out⟩
      · simp at ho
    · rintro L _ w11 ⟨t62, t63, t64, t65, t66, t67, t68, t69, t70, t71, t72, t73, t74, t75, t76, t77, t78, t79, t80, t81, t15, rfl, f0, f1, f2, f4, f5, f6, f8, f9, f10, f11, f12, f14, f15, f16, f18, f19, f20, u20, qb, g3, g7, g13, g17⟩ hall
      obtain rfl := f0 (hall 0 (by decide))
      obtain rfl := f1 (hall 1 (by decide))
      obtain rfl := f2 (hall 2 (by decide))
      obtain rfl := f4 (hall 4 (by decide))
      obtain rfl := f5 (hall 5 (by decide))
      obtain rfl := f6 (hall 6 (by decide))
      obtain rfl := f8 (hall 8 (by decide))
      obtain rfl := f9 (hall 9 (by decide))
      obtain rfl := f10 (hall 10 (by decide))
      obtain rfl := f11 (hall 11 (by decide))
      obtain rfl := f12 (hall 12 (by decide))
      obtain rfl := f14 (hall 14 (by decide))
      obtain rfl := f15 (hall 15 (by decide))
      obtain rfl := f16 (hall 16 (by decide))
      obtain rfl := f18 (hall 18 (by decide))
      obtain rfl := f19 (hall 19 (by decide))
      obtain rfl := f20 (hall 20 (by decide))
      have HE : Hid (Below w.heap.size w w11) := (HCX.out w11 qb).1
      clear qb g3 g7 g13 g17 hall
      go_wp2
      go_ret
      exact ⟨rfl, HE.out⟩
end Go.Proofs.YtfhcfaflggiacaaDoor
