/- Key, May. (Laid with NS=1; written by wip/tools/gen/pot.py.) -/
import Derived.Test.YtehmfkcihieecaaPoW4
import Derived.Lib.QuietBelow
namespace Go.Proofs.Ytehmfkcihieecaa.Po
open Go.RowKit Go.Sort
open Te Te.Tt
open Go (Lit DataW MemPlace keyOf maxLen)

theorem infoT4 : (Try.prog.info? 45).map (·.size) = some 4 := by kernel_rfl
theorem results_term {fn : Func} {p : Tmp} (h : fn.results = #[.cell p 45]) (tmps : Array Value) (w : World) (g : Nat) (t : TypeId) (v0 v1 v2 v3 : Value) (fr : Nat × Nat)
    (hp : tmps.getD p undef = .pointer (some ⟨g, 0, none⟩)) (hg : w.heap[g]? = some (.cells #[v0, v1, v2, v3] t fr)) :
    (results fn tmps).run Try.prog w = .ok (.agg #[v0, v1, v2, v3]) w :=
  results_cell_row h tmps w g t _ fr _ hp hg Try.underlying45 rfl infoT4
set_option maxHeartbeats 400000 in
set_option maxRecDepth 100000 in
theorem termKey_any (s : Nm) (n : Int) (w : World) :
    Calls Try.prog 33 #[.string ⟨⟨s⟩⟩, .int .i64 n] w fun e w' => e = .returned (.agg #[.int .i64 2, .string ⟨⟨s⟩⟩, .int .i64 n, .slice none 0 0]) ∧ Below w.heap.size w w' := by
  go_enter Try.func33, Try.ntmps33
  go_wp2
  exact bodyPost_ret (results_term Try.results33 _ _ w.heap.size _ _ _ _ _ _ rfl (heap_alloc_new w _)) rfl ⟨rfl, (Below.refl _ _).alloc (Nat.le_refl _) _⟩
set_option maxHeartbeats 400000 in
set_option maxRecDepth 100000 in
theorem refKey_any (s : Nm) (n : Int) (w : World) :
    Calls Try.prog 25 #[.string ⟨⟨s⟩⟩, .int .i64 n] w fun e w' => e = .returned (.agg #[.int .i64 2, .string ⟨⟨s⟩⟩, .int .i64 n, .slice none 0 0]) ∧ Below w.heap.size w w' := by
  go_enter Try.func25, Try.ntmps25
  go_wp2
  exact bodyPost_ret (results_term Try.results25 _ _ w.heap.size _ _ _ _ _ _ rfl (heap_alloc_new w _)) rfl ⟨rfl, (Below.refl _ _).alloc (Nat.le_refl _) _⟩
/-- A key: its kind, its owner, its number. -/
structure Ky where
  k : Int
  s : Nm
  n : Int
abbrev kval (k : Ky) : Value := .agg #[.int .i64 k.k, .string ⟨⟨k.s⟩⟩, .int .i64 k.n, .slice none 0 0]
/-- The key of who is there. -/
def ky (σ : Sto) (a : Nm) : Ky := match σ a with
  | none => ⟨0, [], 0⟩
  | some p => ⟨2, a, p.ver⟩
theorem two_four (w : World) (v0 v1 v2 v3 : Value) (o : Obj) (t : TypeId) : ((w.alloc (.cells #[v0, v1, v2, v3] t)).alloc o).heap[w.heap.size]? = some (.cells #[v0, v1, v2, v3] t (0, 0)) := two_old _ _ _
set_option maxHeartbeats 2000000 in
set_option maxRecDepth 100000 in
theorem Key_any (w : World) (F : Nat → Prop) (g bm : Nat) (f : Nm → Sl) (σ : Sto) (n : Nat) (h : SP w F g bm f σ n) (a : Nm) (ha : a.length ≤ maxLen) :
    Calls Try.prog 16 #[.pointer (some ⟨g, 0, none⟩), .string ⟨⟨a⟩⟩] w fun e w' => e = .returned (.tuple #[kval (ky σ a), .int .i64 (errW (σ a).isSome)]) ∧ Below w.heap.size w w' := by
  have HF : Hid (∀ W, Below w.heap.size w W → Calls Try.prog 26 #[.pointer (some ⟨g, 0, none⟩), .string ⟨⟨a⟩⟩] W fun e w' => e = .returned (.tuple #[pval (gt σ a) (f a), .int .i64 (errW (σ a).isSome)]) ∧ Below W.heap.size W w') := fun W hW => find_any W F g bm f σ n (h.below hW) a ha
  have HK : Hid (∀ p, σ a = some p → ky σ a = ⟨2, a, p.ver⟩ ∧ gt σ a = p) := fun p hp => ⟨by simp [ky, hp], gt_some hp⟩
  have HK0 : Hid (σ a = none → ky σ a = ⟨0, [], 0⟩) := fun hp => by simp [ky, hp]
  obtain ⟨A, ka, C, kc, G, kg, hs⟩ := (h.own a).forms
  rw [hs] at HF
  clear h ha hs
  generalize ky σ a = k at *
  generalize gt σ a = p at *
  generalize σ a = x at *
  obtain ⟨W1, hW1⟩ : ∃ W1, W1 = w.alloc (.cells #[.int .i64 0, .string ⟨#[]⟩, .int .i64 0, .slice none 0 0] 45) := ⟨_, rfl⟩
  obtain ⟨z, hz⟩ : ∃ z, z = w.heap.size := ⟨_, rfl⟩
  have HB1 : Hid (Below w.heap.size w W1) := by rw [hW1]; exact (Below.refl _ _).alloc (Nat.le_refl _) _
  have HG1 : Hid (W1.heap[z]? = some (.cells #[.int .i64 0, .string ⟨#[]⟩, .int .i64 0, .slice none 0 0] 45 (0, 0))) := by rw [hW1, hz]; exact heap_alloc_new _ _
  have HZ := Lib.hid hz
  have HW1 := Lib.hid hW1
  clear hW1 hz
  obtain ⟨nm, ver, tr, se, al, ac, gr, li⟩ := p
  simp only [pval] at *
  generalize al.length = la at *
  generalize ac.length = lc at *
  generalize gr.length = lg at *
  go_enter Try.func16, Try.ntmps16
  go_wp2_with fail
  rw [← HZ.out, ← HW1.out]
  refine (HF.out W1 HB1.out).mono ?_
  rintro _ W2 ⟨rfl, b2⟩
  have HB2 := Lib.hid (HB1.out.trans (b2.mono HB1.out.size))
  have hg2 := (b2.block z (Array.getElem?_eq_some_iff.1 HG1.out).1).trans HG1.out
  have HB3 := Lib.hid (HB2.out.alloc (o := .cells #[.string ⟨⟨nm⟩⟩, .int .i64 ver, .bool tr, .bool se, .slice A la ka, .slice C lc kc, .slice G lg kg, .int .i64 li] 32) HB2.out.size)
  have hg3 := (heap_alloc_old W2 (.cells #[.string ⟨⟨nm⟩⟩, .int .i64 ver, .bool tr, .bool se, .slice A la ka, .slice C lc kc, .slice G lg kg, .int .i64 li] 32) (Array.getElem?_eq_some_iff.1 hg2).1).trans hg2
  have HG3 := Lib.hid hg3
  clear b2 HB1 HG1 HF hg2
  cases x with
  | none =>
    obtain rfl := HK0.out rfl
    clear HK HK0
    have hf := fun k => frozen_of_row _ _ k _ _ hg3
    obtain ⟨y0, y1, y2, y3⟩ := cell4 hg3
    have hres := set4_self (v0 := .int .i64 0) (v1 := .string ⟨⟨[]⟩⟩) (v2 := .int .i64 0) (v3 := .slice none 0 0) hg3
    have HRES := Lib.hid hres
    have HBEL := Lib.hid (set4_below (v0 := .int .i64 0) (v1 := .string ⟨⟨[]⟩⟩) (v2 := .int .i64 0) (v3 := .slice none 0 0) HB3.out (show w.heap.size ≤ z by rw [← HZ.out]; exact Nat.le_refl _))
    clear hg3 hres
    simp only [errW, Option.isSome_none]
    go_wp2
    obtain ⟨x0, x1, x2, x3⟩ := cell4 HRES.out
    refine bodyPost_ret (v := .tuple #[.agg #[.int .i64 0, .string ⟨⟨[]⟩⟩, .int .i64 0, .slice none 0 0], .int .i64 40]) (by simp [results, Try.results16, go_sem, x0, x1, x2, x3]) rfl ?_
    exact ⟨rfl, HBEL.out⟩
  | some q =>
    obtain ⟨rfl, e⟩ := HK.out q rfl
    subst e
    clear HK HK0
    simp only [errW, Option.isSome_some]
    have HC := Lib.hid fun W => termKey_any a ver W
    go_wp2_with fail
    generalize W2.alloc (.cells #[.string ⟨⟨nm⟩⟩, .int .i64 ver, .bool tr, .bool se, .slice A la ka, .slice C lc kc, .slice G lg kg, .int .i64 li] 32) = W3 at *
    generalize W2.heap.size = z2 at *
    refine (HC.out _).mono ?_
    rintro _ W4 ⟨rfl, b4⟩
    have hg4 := (b4.block z (Array.getElem?_eq_some_iff.1 HG3.out).1).trans HG3.out
    have hf := fun k => frozen_of_row _ _ k _ _ hg4
    obtain ⟨y0, y1, y2, y3⟩ := cell4 hg4
    have hres := set4_self (v0 := .int .i64 2) (v1 := .string ⟨⟨a⟩⟩) (v2 := .int .i64 ver) (v3 := .slice none 0 0) hg4
    have HRES := Lib.hid hres
    have HBEL := Lib.hid (set4_below (v0 := .int .i64 2) (v1 := .string ⟨⟨a⟩⟩) (v2 := .int .i64 ver) (v3 := .slice none 0 0) (HB3.out.trans (b4.mono HB3.out.size)) (show w.heap.size ≤ z by rw [← HZ.out]; exact Nat.le_refl _))
    clear hg3 hg4 hres b4 HG3 HB3 HB2
    go_wp2
    obtain ⟨x0, x1, x2, x3⟩ := cell4 HRES.out
    refine bodyPost_ret (v := .tuple #[.agg #[.int .i64 2, .string ⟨⟨a⟩⟩, .int .i64 ver, .slice none 0 0], .int .i64 0]) (by simp [results, Try.results16, go_sem, x0, x1, x2, x3]) rfl ?_
    exact ⟨rfl, HBEL.out⟩

theorem run_field4 (v0 v1 v2 v3 v4 v5 v6 v7 : Value) (W : World) : (Instr.field 32 (.agg #[v0, v1, v2, v3, v4, v5, v6, v7]) 4).run Try.prog W = .ok v4 W := by
  simp [Instr.field, run_underlying Try.underlying32, asAgg, part]
theorem run_field5 (v0 v1 v2 v3 v4 v5 v6 v7 : Value) (W : World) : (Instr.field 32 (.agg #[v0, v1, v2, v3, v4, v5, v6, v7]) 5).run Try.prog W = .ok v5 W := by
  simp [Instr.field, run_underlying Try.underlying32, asAgg, part]
theorem SP.lookup {w : World} {F : Nat → Prop} {g bm : Nat} {f : Nm → Sl} {σ : Sto} {n : Nat} (h : SP w F g bm f σ n) (a : Nm) (ha : a.length ≤ maxLen) : (Instr.lookup 59 (.map (some bm)) (.string ⟨⟨a⟩⟩) false).run Try.prog w = .ok (pval (gt σ a) (f a)) w := by
  obtain ⟨D, hown, -, hat⟩ := h.look a
  obtain ⟨v', ps, hrun, hv'⟩ := hown.lookup law Try.underlying59 (zeroP w) (tok_mk zP) (hkey a ha)
  rw [hat] at hv'
  obtain rfl := tok_inv hv'
  exact hrun
set_option maxHeartbeats 4000000 in
set_option maxRecDepth 100000 in
theorem May_any (w : World) (F : Nat → Prop) (g bm : Nat) (f : Nm → Sl) (σ : Sto) (n : Nat) (h : SP w F g bm f σ n) (a b : Nm) (ha : a.length ≤ maxLen) (hb : b.length ≤ maxLen) :
    Calls Try.prog 13 #[.pointer (some ⟨g, 0, none⟩), .string ⟨⟨a⟩⟩, .string ⟨⟨b⟩⟩] w fun e w' => e = .returned (.tuple #[.bool (decide (b ∈ (gt σ a).al)), .bool (decide (a ∈ (gt σ b).ac))]) ∧ Below w.heap.size w w' := by
  have hl := fun d os => (h.below (below_regrown w d os)).lookup
  have c0 := fun d os => (h.below (below_regrown w d os)).cell
  have l1 := fun d os => hl d os a ha
  have l2 := fun d os => hl d os b hb
  have hr1 := fun d os => ((h.below (below_regrown w d os)).own a).a.form
  have hr2 := fun d os => ((h.below (below_regrown w d os)).own b).c.form
  have hn1 := (gt_len h.ok a).1
  have hn2 := (gt_len h.ok b).2.1
  obtain ⟨A, ka, C, kc, G, kg, hs⟩ := (h.own a).forms
  obtain ⟨A', ka', C', kc', G', kg', hs'⟩ := (h.own b).forms
  rw [hs] at l1 hr1
  rw [hs'] at l2 hr2
  clear hl h hs hs' ha hb
  generalize gt σ a = p at *
  generalize gt σ b = q at *
  obtain ⟨nm, ver, tr, se, al, ac, gr, li⟩ := p
  obtain ⟨nm', ver', tr', se', al', ac', gr', li'⟩ := q
  simp only [pval] at *
  have k1 : ∀ d os, Calls Try.prog 28 #[.slice A al.length ka, .string ⟨⟨b⟩⟩] (grow (redrawn w d) os) fun e w'' => e = .returned (.bool (decide (b ∈ al))) ∧ ∃ p : Regrown, w'' = grow (redrawn w p.d) p.os := fun d os => by
    obtain ⟨A2, c2, e, -, hr⟩ := hr1 d os
    injection e with e1 e2 e3
    subst e1 e3
    exact Calls.regrown_of ((Contains_any al A ka _ b _ hr (by omega)).mono fun e w' ⟨h1, h2⟩ => ⟨h1, h2 ▸ Below.refl _ _⟩)
  have k2 : ∀ d os, Calls Try.prog 28 #[.slice C' ac'.length kc', .string ⟨⟨a⟩⟩] (grow (redrawn w d) os) fun e w'' => e = .returned (.bool (decide (a ∈ ac'))) ∧ ∃ p : Regrown, w'' = grow (redrawn w p.d) p.os := fun d os => by
    obtain ⟨A2, c2, e, -, hr⟩ := hr2 d os
    injection e with e1 e2 e3
    subst e1 e3
    exact Calls.regrown_of ((Contains_any ac' C' kc' _ a _ hr (by omega)).mono fun e w' ⟨h1, h2⟩ => ⟨h1, h2 ▸ Below.refl _ _⟩)
  have f4 := run_field4
  have f5 := run_field5
  clear hr1 hr2 hn1 hn2
  generalize decide (b ∈ al) = x at *
  generalize decide (a ∈ ac') = y at *
  generalize al.length = la at *
  generalize ac'.length = lc' at *
  generalize ac.length = lc at *
  generalize al'.length = la' at *
  generalize gr.length = lg at *
  generalize gr'.length = lg' at *
  go_enter Try.func13, Try.ntmps13
  go_wp2_with fail
  refine wp_region_quiet_below (by kernel_rfl) (by kernel_rfl) ?_
  repeat (quiet_step (first | with_reducible exact k1 _ _ | with_reducible exact k2 _ _))
  refine wpQuiet_nil ?_
  intro _ hw'
  obtain ⟨⟨dq, osq⟩, hw''⟩ := hw'
  subst hw''
  have HB := Lib.hid (below_regrown w dq osq)
  clear k1 k2 f4 f5 l1 l2 c0
  go_wp2
  go_ret2
  exact ⟨rfl, HB.out⟩
end Go.Proofs.Ytehmfkcihieecaa.Po
