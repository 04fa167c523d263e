/- The law's works: the document's example. (Laid with NS=1; written by wip/tools/gen/pot.py.) -/
import Derived.Test.YtehmfkcihieecaaPoA3
namespace Go.Proofs.Ytehmfkcihieecaa.Po
open Go.RowKit Go.Sort
open Te Te.Tt
open Go (Lit DataW MemPlace keyOf maxLen)

abbrev web : Nm := [119, 101, 98]
abbrev db : Nm := [100, 98]
def pw : Pr := ⟨web, 1, false, false, [], [], [], 0⟩
def pd : Pr := ⟨db, 3, false, false, [], [], [], 0⟩
def s1 : Sto := up (fun _ => none) web pw
def s2 : Sto := up s1 db pd
def pw2 : Pr := ⟨web, 1, false, false, [db], [], [], 0⟩
def s3 : Sto := up s2 web pw2
theorem wd : web ≠ db := by decide
theorem ex1 : addE (fun _ => none) 0 pw = 0 ∧ add (fun _ => none) 0 pw = (s1, 1) := by
  have h : addE (fun _ => none) 0 pw = 0 := by decide
  exact ⟨h, by unfold add; rw [if_pos h]; rfl⟩
theorem ex2 : addE s1 1 pd = 0 ∧ add s1 1 pd = (s2, 2) := by
  have h0 : s1 pd.nm = none := up_other (show db ≠ web from wd.symm)
  have h : addE s1 1 pd = 0 := by unfold addE; rw [h0]; decide
  exact ⟨h, by unfold add; rw [if_pos h]; rfl⟩
theorem ex3 : rel s2 web db (allF db true) = (s3, 0) := by
  have h1 : s2 db = some pd := up_same _ _ _
  have h2 : s2 web = some pw := (up_other wd).trans (up_same _ _ _)
  unfold rel
  rw [h1]
  show chg s2 web (allF db true) = _
  unfold chg
  rw [h2]
  rfl
theorem ex4 : gt s3 web = pw2 ∧ gt s3 db = pd ∧ ky s3 db = ⟨2, db, 3⟩ ∧ (s3 db).isSome = true ∧ (s3 web).isSome = true := by
  have h1 : s3 db = some pd := (up_other wd.symm).trans (up_same _ _ _)
  exact ⟨gt_same _ _ _, gt_some h1, by unfold ky; rw [h1]; rfl, by rw [h1]; rfl, by rw [show s3 web = some pw2 from up_same _ _ _]; rfl⟩
theorem ex5 (ss : List Nm) (hn : ss.Nodup) (hm : ∀ a, a ∈ ss ↔ (s3 a).isSome = true) : ss.mergeSort (fun x y => decide (x ≤ y)) = [db, web] := by
  have hmem : ∀ a, a ∈ ss ↔ a ∈ [db, web] := fun a => by
    rw [hm a]
    by_cases h1 : a = web
    · subst h1; rw [show s3 web = some pw2 from up_same _ _ _]; simp
    · by_cases h2 : a = db
      · subst h2; rw [show s3 db = some pd from (up_other wd.symm).trans (up_same _ _ _)]; simp
      · rw [show s3 a = none from (up_other h1).trans ((up_other h2).trans (up_other h1))]; simp [h1, h2]
  have hp : ss.Perm [db, web] := (List.perm_ext_iff_of_nodup hn (by decide)).2 hmem
  have h1 := Go.mergeSort_of_perm hp
  refine h1.trans (List.mergeSort_of_pairwise ?_)
  decide
theorem pv_nil (w : World) (S : Nat → Prop) (nm : Nm) (v : Int) : PV w S ⟨nm, v, false, false, [], [], [], 0⟩ (.agg #[.string ⟨⟨nm⟩⟩, .int .i64 v, .bool false, .bool false, .slice none 0 0, .slice none 0 0, .slice none 0 0, .int .i64 0]) :=
  ⟨none, 0, none, 0, none, 0, rfl, .inl rfl, .inl rfl, .inl rfl, Nat.le_refl _, Nat.le_refl _⟩
set_option maxHeartbeats 8000000 in
set_option maxRecDepth 100000 in
theorem works_any (V : World) : Calls Try.prog 8 #[] V fun e w' => e = .returned (.bool true) ∧ RowKit.Below V.heap.size V w' := by
  go_enter Try.func8, Try.ntmps8
  go_wp2_with fail
  refine (one_new V V (RowKit.Below.refl _ _)).mono ?_
  rintro _ w1 ⟨g, bm, rfl, h1, -⟩
  have HO1 := Lib.hid h1
  clear h1
  go_wp2_with fail
  refine (one_add HO1.out pw (fun _ => False) _ (pv_nil w1 _ web 1) (fun _ h => h.elim) (by decide) (by decide) (by decide) (by decide) (by decide)).mono ?_
  rw [ex1.1, ex1.2]
  rintro _ w2 ⟨rfl, h2, -⟩
  have HO2 := Lib.hid h2
  clear h2 HO1
  go_wp2_with fail
  refine (one_add HO2.out pd (fun _ => False) _ (pv_nil w2 _ db 3) (fun _ h => h.elim) (by decide) (by decide) (by decide) (by decide) (by decide)).mono ?_
  rw [ex2.1, ex2.2]
  rintro _ w3 ⟨rfl, h3, -⟩
  have HO3 := Lib.hid h3
  clear h3 HO2
  go_wp2_with fail
  refine (one_allow HO3.out web db true (by decide) (by decide) (by decide)).mono ?_
  rw [ex3]
  rintro _ w4 ⟨rfl, h4, -⟩
  have HO4 := Lib.hid h4
  clear h4 HO3
  go_wp2_with fail
  refine (one_may HO4.out web db (by decide) (by decide)).mono ?_
  rw [ex4.1, ex4.2.1]
  rintro _ w5 ⟨rfl, b5⟩
  have HO5 := Lib.hid (HO4.out.read b5 (K' := fun _ => False) (fun i h => h.elim))
  clear b5 HO4
  have e1 : decide (db ∈ pw2.al) = true := by decide
  have e2 : decide (web ∈ pd.ac) = false := by decide
  rw [e1, e2]
  clear e1 e2
  go_wp2_with fail
  refine (one_key HO5.out db (by decide)).mono ?_
  rw [ex4.2.2.1, ex4.2.2.2.1]
  rintro _ w6 ⟨rfl, b6⟩
  have HO6 := Lib.hid (HO5.out.read b6 (K' := fun _ => False) (fun i h => h.elim))
  clear b6 HO5
  simp only [kval, errW]
  go_wp2_with fail
  obtain ⟨W6, hW6⟩ : ∃ W6, W6 = w6.alloc (.cells #[.int .i64 2, .string ⟨⟨db⟩⟩, .int .i64 3, .slice none 0 0] 45) := ⟨_, rfl⟩
  obtain ⟨z, hz⟩ : ∃ z, z = w6.heap.size := ⟨_, rfl⟩
  have hb6 : RowKit.Below w6.heap.size w6 W6 := by rw [hW6]; exact (RowKit.Below.refl _ _).alloc (Nat.le_refl _) _
  have hg6 : W6.heap[z]? = some (.cells #[.int .i64 2, .string ⟨⟨db⟩⟩, .int .i64 3, .slice none 0 0] 45 (0, 0)) := by rw [hW6, hz]; exact heap_alloc_new _ _
  have HO7 := Lib.hid (HO6.out.read hb6 (K' := fun _ => False) (fun i h => h.elim))
  have HG6 := Lib.hid hg6
  have hget := one_get HO7.out web (by decide)
  unfold GetPost at hget
  rw [ex4.1, ex4.2.2.2.2] at hget
  have HGET := Lib.hid hget
  have HB6 := Lib.hid (HO7.out.bel)
  rw [← hz, ← hW6]
  clear hget hg6 hb6 hz hW6 HO6
  refine HGET.out.mono ?_
  rintro _ w7 ⟨s, rfl, ho, hl, b7⟩
  obtain ⟨A', a', C', c', G', g', rfl⟩ := ho.forms
  have hg7 := (b7.block z (Array.getElem?_eq_some_iff.1 HG6.out).1).trans HG6.out
  have HG7 := Lib.hid hg7
  have HO8 := Lib.hid (HO7.out.read b7 (K' := fun _ => False) (fun i h => h.elim))
  clear ho hl b7 hg7 HG6 HO7 HGET HB6
  simp only [pval, errW, pw2, if_true]
  generalize ([db] : List Nm).length = la at *
  generalize ([] : List Nm).length = lc at *
  go_wp2_with fail
  obtain ⟨W7, hW7⟩ : ∃ W7, W7 = w7.alloc (.cells #[.string ⟨⟨web⟩⟩, .int .i64 1, .bool false, .bool false, .slice A' la a', .slice C' lc c', .slice G' lc g', .int .i64 0] 32) := ⟨_, rfl⟩
  obtain ⟨y, hy⟩ : ∃ y, y = w7.heap.size := ⟨_, rfl⟩
  have hb7 : RowKit.Below w7.heap.size w7 W7 := by rw [hW7]; exact (RowKit.Below.refl _ _).alloc (Nat.le_refl _) _
  have hc7 : W7.cell? ⟨y, 0, none⟩ = some (.string ⟨⟨web⟩⟩) := by rw [hW7, hy, cell_of_row _ _ _ _ _ _ (heap_alloc_new w7 _)]; rfl
  have hyl : y < W7.heap.size := by rw [hW7, hy]; simp
  have HO9 := Lib.hid (HO8.out.read hb7 (K' := fun _ => False) (fun i h => h.elim))
  have HG8 := Lib.hid ((hb7.block z (Array.getElem?_eq_some_iff.1 HG7.out).1).trans HG7.out)
  have HC7 := Lib.hid hc7
  have HYL := Lib.hid hyl
  rw [← hy, ← hW7]
  clear hb7 hc7 hyl hy hW7 HG7 HO8
  refine (one_names HO9.out (by decide)).mono ?_
  rintro _ w8 ⟨v, ss, rfl, hov, hnd, hlen, hmem, hlo, b8⟩
  rw [ex5 ss hnd hmem] at hov
  obtain ⟨A8, c8, rfl, -, hrd⟩ := hov.form
  obtain ⟨nb, no, rfl, -, hnc⟩ := hrd.resolve_left (by decide)
  have x0 := hnc 0 (by decide)
  obtain ⟨y0, y1, y2, y3⟩ := cell4 ((b8.block z (Array.getElem?_eq_some_iff.1 HG8.out).1).trans HG8.out)
  have z0 := (b8.cell (p := ⟨y, 0, none⟩) HYL.out).trans HC7.out
  have HB8 := Lib.hid (HO9.out.bel.trans (b8.mono HO9.out.bel.size))
  have j0 := fun d os => cell_regrown y0 d os
  have j1 := fun d os => cell_regrown y1 d os
  have j2 := fun d os => cell_regrown y2 d os
  have j3 := fun d os => cell_regrown y3 d os
  have j4 := fun d os => cell_regrown z0 d os
  have j5 : ∀ d os, (grow (redrawn w8 d) os).cell? ⟨nb, no, none⟩ = some (.string ⟨⟨db⟩⟩) := fun d os => cell_regrown x0 d os
  have k1 : ∀ d os, Calls Try.prog 25 #[.string ⟨⟨db⟩⟩, .int .i64 3] (grow (redrawn w8 d) os) fun e w'' => e = .returned (.agg #[.int .i64 2, .string ⟨⟨db⟩⟩, .int .i64 3, .slice none 0 0]) ∧ ∃ p : Regrown, w'' = grow (redrawn w8 p.d) p.os := fun d os => Calls.regrown_of (refKey_any db 3 _)
  have k2 : ∀ d os, Calls Try.prog 18 #[.agg #[.int .i64 2, .string ⟨⟨db⟩⟩, .int .i64 3, .slice none 0 0], .agg #[.int .i64 2, .string ⟨⟨db⟩⟩, .int .i64 3, .slice none 0 0]] (grow (redrawn w8 d) os) fun e w'' => e = .returned (.bool true) ∧ ∃ p : Regrown, w'' = grow (redrawn w8 p.d) p.os := fun d os => Calls.regrown_of (sameK_any ⟨2, db, 3⟩ ⟨2, db, 3⟩ _)
  clear y0 y1 y2 y3 z0 x0 hnc hrd hov hnd hlen hmem hlo b8 HC7 HYL HG8 HO9
  simp only [List.length_cons, List.length_nil] at *
  go_wp2_with fail
  refine wp_region_quiet_below (by kernel_rfl) (by kernel_rfl) ?_
  repeat (quiet_step (first | with_reducible exact k1 _ _ | with_reducible exact k2 _ _))
  refine wpQuiet_nil ?_
  intro _ hw'
  obtain ⟨⟨dq, osq⟩, hw''⟩ := hw'
  subst hw''
  have HB9 := Lib.hid (HB8.out.trans ((below_regrown w8 dq osq).mono HB8.out.size))
  clear j0 j1 j2 j3 j4 j5 k1 k2
  go_wp2
  go_ret
  exact ⟨rfl, HB9.out⟩
end Go.Proofs.Ytehmfkcihieecaa.Po
