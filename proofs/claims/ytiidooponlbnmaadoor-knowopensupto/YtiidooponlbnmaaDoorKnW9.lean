/- makes, Can. (Laid with NS=1.) -/
import Derived.Test.YtiidooponlbnmaaDoorKnW8
import Derived.BigQuiet
import Derived.Lib.QuietBelow
namespace Go.Proofs.YtiidooponlbnmaaDoor.Kn
open Go.RowKit Go.Sort
open Te Te.Tt
open Go (Lit DataW MemPlace keyOf maxLen)

theorem trow_twoR {w : World} {S : Nat → Prop} {a b : Tm} {A : Option Addr} (h : TRow w S [a, b] A) : ∃ g o x0 x1 x2 x3 y0 y1 y2 y3, A = some ⟨g, o, none⟩ ∧ S g ∧ w.cell? ⟨g, o, none⟩ = some x0 ∧ w.cell? ⟨g, o + 1, none⟩ = some x1 ∧ w.cell? ⟨g, o + 2, none⟩ = some x2 ∧ w.cell? ⟨g, o + 3, none⟩ = some x3 ∧ Rep w S a (.agg #[x0, x1, x2, x3]) ∧
    w.cell? ⟨g, o + 4, none⟩ = some y0 ∧ w.cell? ⟨g, o + 4 + 1, none⟩ = some y1 ∧ w.cell? ⟨g, o + 4 + 2, none⟩ = some y2 ∧ w.cell? ⟨g, o + 4 + 3, none⟩ = some y3 ∧ Rep w S b (.agg #[y0, y1, y2, y3]) := by
  rcases h with h | ⟨g, o, rfl, hg, h⟩
  · cases h
  · rw [Reps, Reps] at h
    obtain ⟨⟨x0, x1, x2, x3, h0, h1, h2, h3, ha⟩, ⟨y0, y1, y2, y3, k0, k1, k2, k3, hb⟩, -⟩ := h
    exact ⟨g, o, x0, x1, x2, x3, y0, y1, y2, y3, rfl, hg, h0, h1, h2, h3, ha, k0, k1, k2, k3, hb⟩
mutual
/-- Could it be made, by one who knows these? -/
def can (kn : List Tm) : Tm → Bool
  | .mk k s n l => decide (k = 0) || decide (k = 1) || decide (Tm.mk k s n l ∈ kn) || (if k = 3 then (cans kn l).all id else if k = 4 ∨ k = 5 then decide (hd1 l ∈ kn) && (cans kn l).getD 1 false else false)
def cans (kn : List Tm) : List Tm → List Bool
  | [] => []
  | x :: r => can kn x :: cans kn r
end
theorem cans_map (kn : List Tm) : ∀ l, cans kn l = l.map (can kn)
  | [] => by rw [cans]; rfl
  | x :: r => by rw [cans, cans_map kn r]; rfl

section
variable (w0 : World) (F : Nat → Prop) (g bk bw : Nat) (T : Nat → Prop) (f : Tm → Value) (s : St)
def MakesSaid (x : Tm) : Prop := ∀ (S : Nat → Prop) (v : Value) (w : World), Below w0.heap.size w0 w → vld 0 x = true → sz x ≤ 262144 → Rep w S x v → (∀ b, S b → b < w.heap.size) →
  Calls Tryd.prog 41 #[.pointer (some ⟨g, 0, none⟩), v] w fun e w' => e = .returned (.bool (can s.kn x)) ∧ Below w.heap.size w w'

set_option maxHeartbeats 1000000 in
set_option maxRecDepth 100000 in
theorem makes1_any (x : Tm) (ih : MakesSaid w0 g s x) (S : Nat → Prop) (v : Value) (w : World) (p : Nat) (hp : w.heap[p]? = some (.cells #[.pointer (some ⟨g, 0, none⟩)] 25 (0, 0))) (hw : Below w0.heap.size w0 w) (hx : vld 0 x = true) (hsz : sz x ≤ 262144) (hr : Rep w S x v) (hS : ∀ b, S b → b < w.heap.size) :
    Calls Tryd.prog 53 #[v, .pointer (some ⟨p, 0, none⟩)] w fun e w' => e = .returned (.bool (!can s.kn x)) ∧ Below w.heap.size w w' := by
  obtain ⟨c, hc⟩ : ∃ c, c = can s.kn x := ⟨_, rfl⟩
  have HI := fun W h1 h2 h3 => ih S v W h1 hx hsz h2 h3
  rw [← hc] at HI ⊢
  clear hc ih
  have hr0 := hr
  obtain ⟨k, t, n, l⟩ := x
  obtain ⟨A, ca, rfl, hn, hrow⟩ := rep_mk.1 hr
  have hb1 : Below w.heap.size w (w.alloc (.cells #[.int .i64 k, .string ⟨⟨t⟩⟩, .int .i64 n, .slice A l.length ca] 33)) := (Below.refl _ _).alloc (Nat.le_refl _) _
  have hc1 := HI _ (hw.trans (hb1.mono hw.size)) (rep_below hr0 hb1 hS) (fun i hi => Nat.lt_of_lt_of_le (hS i hi) hb1.size)
  have HC := Lib.hid hc1
  have HB1 := Lib.hid hb1
  have hpl := (Array.getElem?_eq_some_iff.1 hp).1
  have p0 : (w.alloc (.cells #[.int .i64 k, .string ⟨⟨t⟩⟩, .int .i64 n, .slice A l.length ca] 33)).cell? ⟨p, 0, none⟩ = some (.pointer (some ⟨g, 0, none⟩)) := by rw [cell_of_row _ _ _ _ _ _ ((hb1.block p hpl).trans hp)]; rfl
  clear HI hr hr0 hS hsz hx hw hrow hb1 hc1 hp
  go_enter Tryd.func53, Tryd.ntmps53
  go_wp2_with fail
  refine HC.out.mono ?_
  rintro _ w2 ⟨rfl, hb2⟩
  have HB2 := Lib.hid (HB1.out.trans (hb2.mono HB1.out.size))
  clear hb2 HC HB1 p0
  go_wp2
  go_ret
  exact ⟨by cases c <;> rfl, HB2.out⟩

set_option maxHeartbeats 1000000 in
set_option maxRecDepth 100000 in
theorem mkIndex_any (q : List Tm) (ih : ∀ x ∈ q, MakesSaid w0 g s x) (A : Option Addr) (ca : Nat) (S : Nat → Prop) (w : World) (p : Nat) (hp : w.heap[p]? = some (.cells #[.pointer (some ⟨g, 0, none⟩)] 25 (0, 0))) (hw : Below w0.heap.size w0 w) (hv : ∀ x ∈ q, vld 0 x = true) (hz : ∀ x ∈ q, sz x ≤ 262144) (hr : TRow w S q A) (hS : ∀ b, S b → b < w.heap.size) (hn : q.length ≤ 1000000) :
    Calls Tryd.prog 62 #[.slice A q.length ca, .func (.func 53) #[] #[.pointer (some ⟨p, 0, none⟩)]] w fun e w' => ∃ r : Int, e = .returned (.int .i64 r) ∧
      ((r = -1 ∧ q.all (can s.kn) = true) ∨ (0 ≤ r ∧ q.all (can s.kn) = false)) ∧ Below w.heap.size w w' := by
  have HR := Lib.hid hr
  have HS := Lib.hid hS
  have HP := Lib.hid hp
  have HW := Lib.hid hw
  have HIH := Lib.hid fun x hx S v w p hp hw hr hS => makes1_any w0 g s x (ih x hx) S v w p hp hw (hv x hx) (hz x hx) hr hS
  clear hr hS hp hw ih hv hz
  go_enter Tryd.func62, Tryd.ntmps62
  go_wp2
  go_loopw [8] (fun iv wr => ∃ i : Nat, i ≤ q.length ∧ iv = .int .i64 (i : Nat) ∧ Hid ((q.take i).all (can s.kn) = true) ∧ Hid (Below w.heap.size w wr)) (fun iv _ => q.length - (intOf iv).toNat)
  case atStart => exact ⟨0, by omega, rfl, Lib.hid (by simp), Below.refl _ _⟩
  case round =>
    obtain ⟨i, hi, rfl, HA, HB⟩ := hrel
    by_cases hlt : i < q.length
    · obtain ⟨b, o, k, t, m, y, C, cb, rfl, hSb, hx, c0, c1, c2, c3, hrep⟩ := trow_get HR.out HB.out HS.out hlt
      have hil : (i : Int) < (q.length : Int) := by omega
      have hmem : q[i] ∈ q := List.getElem_mem hlt
      have hta := List.take_succ_eq_append_getElem hlt
      have hwz := HB.out.size
      rw [hx] at hmem hta
      have hN := HIH.out _ hmem S _ wr p ((HB.out.block p (Array.getElem?_eq_some_iff.1 HP.out).1).trans HP.out) (HW.out.trans (HB.out.mono HW.out.size)) hrep (fun i hi => Nat.lt_of_lt_of_le (HS.out i hi) hwz)
      by_cases hk : can s.kn (.mk k t m y) = true
      · have HT : Hid ((q.take (i + 1)).all (can s.kn) = true) := by
          rw [Hid, hta, List.all_append, HA.out]; simp [hk]
        rw [hk] at hN
        have HN := Lib.hid hN
        clear hx hrep HA hmem hta hN hk
        go_wp2_with fail
        refine HN.out.mono ?_
        rintro _ w1 ⟨rfl, hb1⟩
        have HB1 : Hid (Below w.heap.size w w1) := HB.out.trans (hb1.mono hwz)
        clear hb1 HN HB
        go_wp2
        go_roundw
        case rel => exact ⟨i + 1, by omega, by go_num, HT, HB1⟩
        case measure => simp [intOf]; omega
      · have hk' : can s.kn (.mk k t m y) = false := by simpa using hk
        have HF : Hid (q.all (can s.kn) = false) := by
          rw [Hid, List.all_eq_false]
          exact ⟨_, hmem, hk⟩
        rw [hk'] at hN
        have HN := Lib.hid hN
        clear hx hrep HA hmem hta hN hk hk'
        go_wp2_with fail
        refine HN.out.mono ?_
        rintro _ w1 ⟨rfl, hb1⟩
        have HB1 : Hid (Below w.heap.size w w1) := HB.out.trans (hb1.mono hwz)
        clear hb1 HN HB
        go_wp2
        go_ret
        exact ⟨i, rfl, .inr ⟨by omega, HF.out⟩, HB1.out⟩
    · have hie : q.take i = q := List.take_of_length_le (by omega)
      have hA := HA.out
      rw [hie] at hA
      have HA2 := Lib.hid hA
      have hil : ¬ (i : Int) < (q.length : Int) := by omega
      clear hA HA hie
      go_wp2
      go_ret
      exact ⟨-1, rfl, .inl ⟨rfl, by have := HA2.out; simpa using this⟩, HB.out⟩
set_option maxHeartbeats 1000000 in
set_option maxRecDepth 100000 in
theorem mkContains_any (q : List Tm) (ih : ∀ x ∈ q, MakesSaid w0 g s x) (A : Option Addr) (ca : Nat) (S : Nat → Prop) (w : World) (p : Nat) (hp : w.heap[p]? = some (.cells #[.pointer (some ⟨g, 0, none⟩)] 25 (0, 0))) (hw : Below w0.heap.size w0 w) (hv : ∀ x ∈ q, vld 0 x = true) (hz : ∀ x ∈ q, sz x ≤ 262144) (hr : TRow w S q A) (hS : ∀ b, S b → b < w.heap.size) (hn : q.length ≤ 1000000) :
    Calls Tryd.prog 54 #[.slice A q.length ca, .func (.func 53) #[] #[.pointer (some ⟨p, 0, none⟩)]] w fun e w' => e = .returned (.bool (!q.all (can s.kn))) ∧ Below w.heap.size w w' := by
  have HC := Lib.hid (mkIndex_any w0 g s q ih A ca S w p hp hw hv hz hr hS hn)
  clear hr hS hp hw ih hv hz
  go_enter Tryd.func54, Tryd.ntmps54
  go_wp2_with fail
  refine HC.out.mono ?_
  rintro _ w1 ⟨r, rfl, hr, hb⟩
  have HB := Lib.hid hb
  have HQ : Hid (decide (r ≥ 0) = !q.all (can s.kn)) := by
    rcases hr with ⟨rfl, e⟩ | ⟨h0, e⟩
    · rw [e]; rfl
    · rw [e]; exact decide_eq_true h0
  clear hb HC hr
  go_wp2
  go_ret
  exact ⟨by simpa using HQ.out, HB.out⟩

set_option maxHeartbeats 4000000 in
set_option maxRecDepth 100000 in
theorem makes_of (h : SR w0 F g bk bw T f s) (htab : TabB w0.heap.size w0) (k : Int) (t : List UInt8) (n : Int) (l : List Tm) (ih : ∀ x ∈ l, MakesSaid w0 g s x) : MakesSaid w0 g s (.mk k t n l) := by
  intro S v w hw hx hsz hr hS
  have hml := mk_le w S _ 0 v hx hr
  have hr0 := hr
  obtain ⟨A, ca, rfl, hn, hrow⟩ := rep_mk.1 hr
  obtain ⟨z, hz⟩ : ∃ z, z = w.heap.size := ⟨_, rfl⟩
  have hb1 : Below w.heap.size w (w.alloc (.cells #[.pointer (some ⟨g, 0, none⟩)] 25)) := (Below.refl _ _).alloc (Nat.le_refl _) _
  have hb2 : Below w.heap.size w ((w.alloc (.cells #[.pointer (some ⟨g, 0, none⟩)] 25)).alloc (.cells #[.int .i64 k, .string ⟨⟨t⟩⟩, .int .i64 n, .slice A l.length ca] 33)) := hb1.alloc (by simp) _
  have hg1 := heap_alloc_new w (.cells #[.pointer (some ⟨g, 0, none⟩)] 25)
  have hg2 := heap_alloc_new (w.alloc (.cells #[.pointer (some ⟨g, 0, none⟩)] 25)) (.cells #[.int .i64 k, .string ⟨⟨t⟩⟩, .int .i64 n, .slice A l.length ca] 33)
  have hs1 : (w.alloc (.cells #[.pointer (some ⟨g, 0, none⟩)] 25)).heap.size = z + 1 := by rw [hz]; simp
  obtain ⟨W, hW⟩ : ∃ W, W = (w.alloc (.cells #[.pointer (some ⟨g, 0, none⟩)] 25)).alloc (.cells #[.int .i64 k, .string ⟨⟨t⟩⟩, .int .i64 n, .slice A l.length ca] 33) := ⟨_, rfl⟩
  have hg1' : W.heap[z]? = some (.cells #[.pointer (some ⟨g, 0, none⟩)] 25 (0, 0)) := by rw [hW, Below.heap_alloc _ _ _ (by rw [hs1]; omega), hz]; exact hg1
  rw [hs1, ← hW] at hg2
  rw [← hW] at hb2
  have hwW := hw.trans (hb2.mono hw.size)
  have hSW : ∀ b, S b → b < W.heap.size := fun i hi => Nat.lt_of_lt_of_le (hS i hi) hb2.size
  have hrW := rep_below hr0 hb2 hS
  have hrowW : TRow W S l A := trow_below hrow hb2 hS
  obtain ⟨m, hm⟩ : ∃ m, m = mk (.mk k t n l) := ⟨_, rfl⟩
  obtain ⟨b, hb⟩ : ∃ b, b = decide (Tm.mk k t n l ∈ s.kn) := ⟨_, rfl⟩
  have kM : ∀ d os, Calls Tryd.prog 40 #[.agg #[.int .i64 k, .string ⟨⟨t⟩⟩, .int .i64 n, .slice A l.length ca]] (Go.Sort.grow (redrawn W d) os) fun e w'' => e = .returned (.string ⟨⟨m⟩⟩) ∧ ∃ p : Regrown, w'' = Go.Sort.grow (redrawn W p.d) p.os := fun d os => by
    rw [hm]
    exact Calls.regrown_of (mark_any _ 0 S _ _ hx (by omega) (rep_below hrW (below_regrown W d os) hSW) (fun i hi => Nat.lt_of_lt_of_le (hSW i hi) (below_regrown W d os).size) (TabB.up htab (hwW.trans ((below_regrown W d os).mono hwW.size))))
  have kH : ∀ d os, Calls Tryd.prog 39 #[.pointer (some ⟨g, 0, none⟩), .string ⟨⟨m⟩⟩] (Go.Sort.grow (redrawn W d) os) fun e w'' => e = .returned (.bool b) ∧ ∃ p : Regrown, w'' = Go.Sort.grow (redrawn W p.d) p.os := fun d os => by
    rw [hm, hb]
    exact Calls.regrown_of (has_any _ F g bk bw T f s (h.below (hwW.trans ((below_regrown W d os).mono hwW.size))) _ hx (by omega))
  have hcan : can s.kn (.mk k t n l) = (decide (k = 0) || decide (k = 1) || b || (if k = 3 then (cans s.kn l).all id else if k = 4 ∨ k = 5 then decide (hd1 l ∈ s.kn) && (cans s.kn l).getD 1 false else false)) := by rw [can, hb]
  obtain ⟨cc, hcc⟩ : ∃ cc, cc = can s.kn (.mk k t n l) := ⟨_, rfl⟩
  rw [← hcc] at hcan ⊢
  have HCAN := Lib.hid hcan
  have HW := Lib.hid hW
  have HZ := Lib.hid hz
  have HG1 := Lib.hid hg1'
  have HG2 := Lib.hid hg2
  have HB2 := Lib.hid hb2
  have HWW := Lib.hid hwW
  have HSW := Lib.hid hSW
  have HRW := Lib.hid hrowW
  have HIH := Lib.hid ih
  have HX := Lib.hid hx
  have HSZ := Lib.hid hsz
  have HKM := Lib.hid kM
  have HKH := Lib.hid kH
  have HTAB := Lib.hid htab
  have HSR := Lib.hid h
  obtain ⟨p0, -⟩ : W.cell? ⟨z, 0, none⟩ = some (.pointer (some ⟨g, 0, none⟩)) ∧ True := ⟨by rw [cell_of_row _ _ _ _ _ _ hg1']; rfl, trivial⟩
  obtain ⟨c0, c1, c2, c3⟩ := cell4 hg2
  clear h htab hr hr0 hS hx hsz hml hrow hz hb1 hb2 hg1 hg2 hs1 hW hg1' hwW hSW hrW hrowW hm hb kM kH hcan hcc hw ih
  go_enter Tryd.func41, Tryd.ntmps41
  by_cases h0 : k = 0
  · subst h0
    clear HKM HKH
    go_wp2
    go_ret
    have hcc : cc = true := by rw [HCAN.out]; rfl
    rw [← HW.out]
    exact ⟨by rw [hcc]; rfl, HB2.out⟩
  by_cases h1 : k = 1
  · subst h1
    clear HKM HKH
    go_wp2
    go_ret
    have hcc : cc = true := by rw [HCAN.out]; rfl
    rw [← HW.out]
    exact ⟨by rw [hcc]; rfl, HB2.out⟩
  go_wp2_with fail
  rw [← HW.out, ← HZ.out]
  have j0 := cell_regrown p0
  have i0 := cell_regrown c0
  have i1 := cell_regrown c1
  have i2 := cell_regrown c2
  have i3 := cell_regrown c3
  have kM := HKM.out
  have kH := HKH.out
  refine wp_region_quiet_below (by kernel_rfl) (by kernel_rfl) ?_
  repeat (quiet_step (first | with_reducible exact kM _ _ | with_reducible exact kH _ _))
  refine wpQuiet_nil ?_
  intro _ hw'
  obtain ⟨⟨dq, osq⟩, hw''⟩ := hw'
  subst hw''
  have b4 := below_regrown W dq osq
  clear kM kH HKM HKH i0 i1 i2 i3 j0 p0 c0 c1 c2 c3
  generalize Go.Sort.grow (redrawn W dq) osq = W2 at *
  have HB4 := Lib.hid (HB2.out.trans (b4.mono HB2.out.size))
  have HWW2 := Lib.hid (HWW.out.trans (b4.mono HWW.out.size))
  have HSW2 : Hid (∀ b, S b → b < W2.heap.size) := fun i hi => Nat.lt_of_lt_of_le (HSW.out i hi) b4.size
  have HRW2 := Lib.hid (trow_below HRW.out b4 HSW.out)
  have HG1' := Lib.hid ((b4.block z (Array.getElem?_eq_some_iff.1 HG1.out).1).trans HG1.out)
  have HG2' := Lib.hid ((b4.block (z + 1) (Array.getElem?_eq_some_iff.1 HG2.out).1).trans HG2.out)
  clear b4 HG1 HG2 HSW HRW HW HB2 HWW
  obtain ⟨c0, c1, c2, c3⟩ := cell4 HG2'.out
  have p0 : W2.cell? ⟨z, 0, none⟩ = some (.pointer (some ⟨g, 0, none⟩)) := by rw [cell_of_row _ _ _ _ _ _ HG1'.out]; rfl
  cases b
  case true =>
    go_wp2
    go_ret
    have hcc : cc = true := by rw [HCAN.out]; simp
    exact ⟨by rw [hcc]; rfl, HB4.out⟩
  case false =>
  by_cases h3 : k = 3
  · subst h3
    have hlen := mis_len (vld_own HX.out).1
    have hC := mkContains_any w0 g s l HIH.out A ca S W2 z HG1'.out HWW2.out (fun x hx => vld_sub0 HX.out hx) (fun x hx => by have h1 := szs_mem l x hx; have h2 := HSZ.out; rw [sz] at h2; omega) HRW2.out HSW2.out (by omega)
    have HC := Lib.hid hC
    clear hlen hC h0 h1
    go_wp2_with fail
    refine HC.out.mono ?_
    rintro _ w5 ⟨rfl, hb5⟩
    have HB5 := Lib.hid (HB4.out.trans (hb5.mono HB4.out.size))
    clear hb5 HC
    go_wp2
    go_ret
    have hcc : cc = l.all (can s.kn) := by rw [HCAN.out, cans_map]; simp
    exact ⟨by rw [hcc]; simp, HB5.out⟩
  by_cases h45 : k = 4 ∨ k = 5
  · obtain ⟨a, y, rfl, hak, -, -⟩ := mis_key (vld_own HX.out).1 h45
    obtain ⟨gb, go, x0, x1, x2, x3, y0, y1, y2, y3, rfl, hgb, j0, j1, j2, j3, hra, k0, k1, k2, k3, hrb⟩ := trow_twoR HRW2.out
    have hva := vld_sub0 HX.out (y := a) (by simp)
    have hvb := vld_sub0 HX.out (y := y) (by simp)
    have hsab : sz a ≤ 262144 ∧ sz y ≤ 262144 := by have := HSZ.out; simp only [sz, Te.Tt.szs] at this; omega
    have hla : (mk a).length ≤ 1000000000000 := by have := mk_le W2 S a 0 _ hva hra; omega
    obtain ⟨ma, hma⟩ : ∃ ma, ma = mk a := ⟨_, rfl⟩
    obtain ⟨ba, hba⟩ : ∃ ba, ba = decide (a ∈ s.kn) := ⟨_, rfl⟩
    obtain ⟨by', hby⟩ : ∃ by', by' = can s.kn y := ⟨_, rfl⟩
    have kM : ∀ d os, Calls Tryd.prog 40 #[.agg #[x0, x1, x2, x3]] (Go.Sort.grow (redrawn W2 d) os) fun e w'' => e = .returned (.string ⟨⟨ma⟩⟩) ∧ ∃ p : Regrown, w'' = Go.Sort.grow (redrawn W2 p.d) p.os := fun d os => by
      rw [hma]
      exact Calls.regrown_of (mark_any _ 0 S _ _ hva (by omega) (rep_below hra (below_regrown W2 d os) HSW2.out) (fun i hi => Nat.lt_of_lt_of_le (HSW2.out i hi) (below_regrown W2 d os).size) (TabB.up HTAB.out (HWW2.out.trans ((below_regrown W2 d os).mono HWW2.out.size))))
    have kH : ∀ d os, Calls Tryd.prog 39 #[.pointer (some ⟨g, 0, none⟩), .string ⟨⟨ma⟩⟩] (Go.Sort.grow (redrawn W2 d) os) fun e w'' => e = .returned (.bool ba) ∧ ∃ p : Regrown, w'' = Go.Sort.grow (redrawn W2 p.d) p.os := fun d os => by
      rw [hma, hba]
      exact Calls.regrown_of (has_any _ F g bk bw T f s (HSR.out.below (HWW2.out.trans ((below_regrown W2 d os).mono HWW2.out.size))) _ hva hla)
    have kF : ∀ d os, Calls Tryd.prog 53 #[.agg #[y0, y1, y2, y3], .pointer (some ⟨z, 0, none⟩)] (Go.Sort.grow (redrawn W2 d) os) fun e w'' => e = .returned (.bool (!by')) ∧ ∃ p : Regrown, w'' = Go.Sort.grow (redrawn W2 p.d) p.os := fun d os => by
      rw [hby]
      exact Calls.regrown_of (makes1_any w0 g s y (HIH.out y (by simp)) S _ _ z (((below_regrown W2 d os).block z (Array.getElem?_eq_some_iff.1 HG1'.out).1).trans HG1'.out) (HWW2.out.trans ((below_regrown W2 d os).mono HWW2.out.size)) hvb hsab.2 (rep_below hrb (below_regrown W2 d os) HSW2.out) (fun i hi => Nat.lt_of_lt_of_le (HSW2.out i hi) (below_regrown W2 d os).size))
    have hcc : cc = (ba && by') := by
      rw [HCAN.out, if_neg h3, if_pos h45, hba, hby]
      simp [h0, h1, cans_map]
      rfl
    have HCC := Lib.hid hcc
    have hk3 : (k == 3) = false := by simpa using h3
    clear hva hvb hsab hla hma hba hby hra hrb hcc hak HIH HSR HTAB HCAN
    rcases h45 with rfl | rfl
    all_goals
      clear h0 h1 h3
      go_wp2_with fail
      have q0 := cell_regrown p0
      have i0 := cell_regrown c0
      have i1 := cell_regrown c1
      have i2 := cell_regrown c2
      have i3 := cell_regrown c3
      have e0 := cell_regrown j0
      have e1 := cell_regrown j1
      have e2 := cell_regrown j2
      have e3 := cell_regrown j3
      have e4 := cell_regrown k0
      have e5 := cell_regrown k1
      have e6 := cell_regrown k2
      have e7 := cell_regrown k3
      refine wp_region_quiet_below (by kernel_rfl) (by kernel_rfl) ?_
      cases ba
      all_goals
        repeat (quiet_step (first | with_reducible exact kM _ _ | with_reducible exact kH _ _ | with_reducible exact kF _ _))
        refine wpQuiet_nil ?_
        intro _ hw'
        obtain ⟨⟨dq, osq⟩, hw''⟩ := hw'
        subst hw''
        have HB5 := Lib.hid (HB4.out.trans ((below_regrown W2 dq osq).mono HB4.out.size))
        clear kM kH kF i0 i1 i2 i3 q0 e0 e1 e2 e3 e4 e5 e6 e7 p0 c0 c1 c2 c3 j0 j1 j2 j3 k0 k1 k2 k3
        go_wp2
        go_ret
        exact ⟨by rw [HCC.out]; simp, HB5.out⟩
  · have h4 : k ≠ 4 := fun e => h45 (.inl e)
    have h5 : k ≠ 5 := fun e => h45 (.inr e)
    go_wp2
    go_ret
    have hcc : cc = false := by rw [HCAN.out, if_neg h3, if_neg h45]; simp [h0, h1]
    exact ⟨by rw [hcc]; rfl, HB4.out⟩
theorem makes_any (h : SR w0 F g bk bw T f s) (htab : TabB w0.heap.size w0) : ∀ x, MakesSaid w0 g s x := Tm.ind (fun k t n l ih => makes_of w0 F g bk bw T f s h htab k t n l ih)
end

set_option maxHeartbeats 1000000 in
set_option maxRecDepth 100000 in
theorem Can_any (w : World) (F : Nat → Prop) (g bk bw : Nat) (T : Nat → Prop) (f : Tm → Value) (s : St) (h : SR w F g bk bw T f s) (htab : TabB w.heap.size w) (x : Tm) (S : Nat → Prop) (v : Value) (hr : Rep w S x v) (hS : ∀ b, S b → b < w.heap.size) (hsz : sz x ≤ 262144) :
    Calls Tryd.prog 17 #[.pointer (some ⟨g, 0, none⟩), v] w fun e w' => e = .returned (.bool (vld 0 x && can s.kn x)) ∧ Below w.heap.size w w' := by
  obtain ⟨b, hb⟩ : ∃ b, b = vld 0 x := ⟨_, rfl⟩
  obtain ⟨c, hc⟩ : ∃ c, c = can s.kn x := ⟨_, rfl⟩
  obtain ⟨z, hz⟩ : ∃ z, z = w.heap.size := ⟨_, rfl⟩
  have HZ := Lib.hid hz
  have HBV := Lib.hid hb
  have HV := Lib.hid fun W h1 h2 => Valid_any x S v W hsz h1 h2
  have HM := Lib.hid fun W h0 h1 h2 h3 => makes_any w F g bk bw T f s h htab x S v W h0 h1 hsz h2 h3
  have hr0 := hr
  rw [← hb, ← hc]
  rw [← hb] at HV
  rw [← hc] at HM
  clear hc
  obtain ⟨k, t, n, l⟩ := x
  obtain ⟨A, ca, rfl, hn, hrow⟩ := rep_mk.1 hr
  have hb1 : Below w.heap.size w (w.alloc (.cells #[.int .i64 k, .string ⟨⟨t⟩⟩, .int .i64 n, .slice A l.length ca] 33)) := (Below.refl _ _).alloc (Nat.le_refl _) _
  have hg1 := heap_alloc_new w (.cells #[.int .i64 k, .string ⟨⟨t⟩⟩, .int .i64 n, .slice A l.length ca] 33)
  rw [← hz] at hg1
  have HRT : Hid (∀ W, Below w.heap.size w W → Rep W S (.mk k t n l) (.agg #[.int .i64 k, .string ⟨⟨t⟩⟩, .int .i64 n, .slice A l.length ca]) ∧ (∀ b, S b → b < W.heap.size)) := fun W hW => ⟨rep_below hr0 hW hS, fun i hi => Nat.lt_of_lt_of_le (hS i hi) hW.size⟩
  have HB1 := Lib.hid hb1
  have HG1 := Lib.hid hg1
  have hc := HV.out _ (HRT.out _ hb1).1 (HRT.out _ hb1).2
  have HC := Lib.hid hc
  clear h htab hr hr0 hS hsz hb hz hrow hb1 hg1 hc
  go_enter Tryd.func17, Tryd.ntmps17
  go_wp2_with fail
  rw [← HZ.out]
  refine HC.out.mono ?_
  rintro _ w2 ⟨rfl, hb2⟩
  have HZ2 := Lib.hid ((hb2.block z (Array.getElem?_eq_some_iff.1 HG1.out).1).trans HG1.out)
  have HB2 := Lib.hid (HB1.out.trans (hb2.mono HB1.out.size))
  clear hb2 HC HG1 HB1
  cases b
  case false =>
    go_wp2
    go_ret
    exact ⟨rfl, HB2.out⟩
  case true =>
    have hm := HM.out w2 HB2.out HBV.out.symm (HRT.out w2 HB2.out).1 (HRT.out w2 HB2.out).2
    have HMM := Lib.hid hm
    obtain ⟨c0, c1, c2, c3⟩ := cell4 HZ2.out
    clear hm HM
    go_wp2_with fail
    refine HMM.out.mono ?_
    rintro _ w3 ⟨rfl, hb3⟩
    have HB3 := Lib.hid (HB2.out.trans (hb3.mono HB2.out.size))
    clear hb3 HMM c0 c1 c2 c3
    go_wp2
    go_ret
    exact ⟨by simp, HB3.out⟩
end Go.Proofs.YtiidooponlbnmaaDoor.Kn
