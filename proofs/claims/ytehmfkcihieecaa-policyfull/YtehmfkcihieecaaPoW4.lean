/- New, find, has. (Laid with NS=1; written by wip/tools/gen/pot.py.) -/
import Derived.Test.YtehmfkcihieecaaPoW3
namespace Go.Proofs.Ytehmfkcihieecaa.Po
open Go.RowKit
open Te Te.Tt
open Go (Lit DataW MemPlace keyOf maxLen)

theorem zeroP (w : World) : (zeroValue 32).run Try.prog w = .ok zP w := by kernel_rfl
/-- The store's map at a name. -/
theorem SP.look {w : World} {F : Nat → Prop} {g bm : Nat} {f : Nm → Sl} {σ : Sto} {n : Nat} (h : SP w F g bm f σ n) (a : Nm) :
    ∃ D, w.ownsMap Try.prog 9 tok bm n D ∧ Maps.has D (.string a) = (σ a).isSome ∧ D.atKey (.string a) (.held zP) = .held (pval (gt σ a) (f a)) := by
  obtain ⟨D, h1, -, -, h2⟩ := h.mp
  exact ⟨D, h1, h2 a⟩
theorem POwn.forms {w : World} {p : Pr} {s : Sl} (h : POwn w p s) : ∃ A a C c G g, s = ⟨.slice A p.al.length a, .slice C p.ac.length c, .slice G p.gr.length g⟩ := by
  obtain ⟨A, a, e1, -, -⟩ := h.a.form
  obtain ⟨C, c, e2, -, -⟩ := h.c.form
  obtain ⟨G, g, e3, -, -⟩ := h.g.form
  refine ⟨A, a, C, c, G, g, ?_⟩
  cases s
  simp only at e1 e2 e3
  rw [e1, e2, e3]

set_option maxHeartbeats 1000000 in
set_option maxRecDepth 100000 in
theorem New_any (w : World) : Calls Try.prog 10 #[] w fun e w' => ∃ g bm, e = .returned (.pointer (some ⟨g, 0, none⟩)) ∧ SP w' (fun i => w.heap.size ≤ i ∧ i < w'.heap.size) g bm (fun _ => nsl) (fun _ => none) 0 ∧ Below w.heap.size w w' := by
  have hmm := @run_makeMap Try.prog
  go_enter Try.func10, Try.ntmps10
  go_wp2
  go_ret
  have hb : Below w.heap.size w ((w.alloc (.map #[] 0)).alloc (.cells #[.map (some w.heap.size)] 61)) := ((Below.refl _ _).alloc (Nat.le_refl _) _).alloc (by simp) _
  refine ⟨w.heap.size + 1, w.heap.size, rfl, ?_, hb⟩
  have hk := (PMap.new w).keep (w' := (w.alloc (.map #[] 0)).alloc (.cells #[.map (some w.heap.size)] 61)) (by rw [Below.heap_alloc _ _ _ (by simp)])
  have hg := heap_alloc_new (w.alloc (.map #[] 0)) (.cells #[.map (some w.heap.size)] 61)
  have e1 : (w.alloc (.map #[] 0)).heap.size = w.heap.size + 1 := by simp
  have e2 : ((w.alloc (.map #[] 0)).alloc (.cells #[.map (some w.heap.size)] 61)).heap.size = w.heap.size + 1 + 1 := by simp
  rw [e1] at hg
  exact ⟨hg, hk, fun a => POwn.nil _, fun a k h => absurd h (bl_nsl k), fun a a' k h => absurd h (bl_nsl k), ⟨by rw [e2]; omega, by rw [e2]; omega⟩, fun i hi => hi.2, by omega, Oks.none⟩

set_option maxHeartbeats 1000000 in
set_option maxRecDepth 100000 in
theorem has_any (w : World) (F : Nat → Prop) (g bm : Nat) (f : Nm → Sl) (σ : Sto) (n : Nat) (h : SP w F g bm f σ n) (a : Nm) (ha : a.length ≤ maxLen) :
    Calls Try.prog 40 #[.pointer (some ⟨g, 0, none⟩), .string ⟨⟨a⟩⟩] w fun e w' => e = .returned (.bool (σ a).isSome) ∧ Below w.heap.size w w' := by
  have c0 := h.cell
  obtain ⟨D, hown, hh, hat⟩ := h.look a
  obtain ⟨A, ka, C, kc, G, kg, hs⟩ := (h.own a).forms
  rw [hs] at hat
  generalize gt σ a = p at *
  generalize (σ a).isSome = b at *
  have HK := Lib.hid (hkey a ha)
  have HO := Lib.hid hown
  have HH := Lib.hid hh
  have HAT := Lib.hid hat
  clear h hown hh hat hs ha
  go_enter Try.func40, Try.ntmps40
  go_wp2_with (first | (at_lookup; refine wpList_lookup_own_ok _ rfl (.tmp 11) (.tmp 12) 59 rfl 9 32 law Try.underlying59 tok (zeroP _) (.held zP) [] rfl bm n D rfl HO.out _ (.string a) rfl HK.out ?_; intro v ps hv; rw [HAT.out] at hv; obtain rfl := tok_inv hv; clear hv; rw [HH.out]))
  go_ret
  exact ⟨rfl, (Below.refl _ _).alloc (Nat.le_refl _) _⟩

theorem two_old (w : World) (o o' : Obj) : ((w.alloc o).alloc o').heap[w.heap.size]? = some o := (heap_alloc_old _ _ (by simp)).trans (heap_alloc_new _ _)
theorem two_below (w : World) (o o' : Obj) : Below w.heap.size w ((w.alloc o).alloc o') := ((Below.refl _ _).alloc (Nat.le_refl _) _).alloc (by simp) _
def errW (b : Bool) : Int := if b then 0 else 40
set_option maxHeartbeats 1000000 in
set_option maxRecDepth 100000 in
theorem find_any (w : World) (F : Nat → Prop) (g bm : Nat) (f : Nm → Sl) (σ : Sto) (n : Nat) (h : SP w F g bm f σ n) (a : Nm) (ha : a.length ≤ maxLen) :
    Calls Try.prog 26 #[.pointer (some ⟨g, 0, none⟩), .string ⟨⟨a⟩⟩] w fun e w' => e = .returned (.tuple #[pval (gt σ a) (f a), .int .i64 (errW (σ a).isSome)]) ∧ Below w.heap.size w w' := by
  have c0 : ∀ o, (w.alloc o).cell? ⟨g, 0, none⟩ = some (.map (some bm)) := fun o => ((Below.refl _ w).alloc (Nat.le_refl _) o).cell (p := ⟨g, 0, none⟩) (h.lt g h.gF.1) ▸ h.cell
  obtain ⟨D, hown, hh, hat⟩ := h.look a
  have hnil : (σ a).isSome = false → f a = nsl ∧ gt σ a = zp := fun e => by
    have e' : σ a = none := by simpa using e
    exact ⟨h.nil_of_none e', gt_none e'⟩
  obtain ⟨A, ka, C, kc, G, kg, hs⟩ := (h.own a).forms
  rw [hs] at hat hnil ⊢
  have hlt := hown.lt
  generalize gt σ a = p at *
  generalize (σ a).isSome = b at *
  have HO : Hid (∀ o, (w.alloc o).ownsMap Try.prog 9 tok bm n D) := fun o => own_keep hown (heap_alloc_old w o hlt)
  have HK := Lib.hid (hkey a ha)
  have HH := Lib.hid hh
  have HAT := Lib.hid hat
  have HN := Lib.hid hnil
  have HC0 := Lib.hid c0
  clear h hown hh hat hs ha hnil hlt c0
  go_enter Try.func26, Try.ntmps26
  have hc0 := HC0.out (.cells #[.string ⟨#[]⟩, .int .i64 0, .bool false, .bool false, .slice none 0 0, .slice none 0 0, .slice none 0 0, .int .i64 0] 32)
  clear HC0
  obtain ⟨nm, ver, tr, se, al, ac, gr, li⟩ := p
  simp only at *
  cases b
  case true =>
    clear HN
    go_wp2_with (first | (at_lookup; refine wpList_lookup_own_ok _ rfl (.tmp 12) (.tmp 13) 59 rfl 9 32 law Try.underlying59 tok (zeroP _) (.held zP) [] rfl bm n D rfl (HO.out _) _ (.string a) rfl HK.out ?_; intro v ps hv; rw [HAT.out] at hv; obtain rfl := tok_inv hv; clear hv; rw [HH.out]))
    have hg := two_old w (.cells #[.string ⟨⟨nm⟩⟩, .int .i64 ver, .bool tr, .bool se, .slice A al.length ka, .slice C ac.length kc, .slice G gr.length kg, .int .i64 li] 32) (.cells #[.string ⟨⟨nm⟩⟩, .int .i64 ver, .bool tr, .bool se, .slice A al.length ka, .slice C ac.length kc, .slice G gr.length kg, .int .i64 li] 32)
    obtain ⟨x0, x1, x2, x3, x4, x5, x6, x7⟩ := cell8 hg
    refine bodyPost_ret (v := .tuple #[.agg #[.string ⟨⟨nm⟩⟩, .int .i64 ver, .bool tr, .bool se, .slice A al.length ka, .slice C ac.length kc, .slice G gr.length kg, .int .i64 li], .int .i64 0]) (by simp [results, Try.results26, go_sem, x0, x1, x2, x3, x4, x5, x6, x7]) rfl ?_
    exact ⟨rfl, two_below _ _ _⟩
  case false =>
    obtain ⟨h1, h2⟩ := HN.out rfl
    injection h1 with e1 e2 e3
    injection h2 with e4 e5 e6 e7 e8 e9 e10 e11
    injection e1 with e1 _ e12
    injection e2 with e2 _ e13
    injection e3 with e3 _ e14
    subst e1 e2 e3 e4 e5 e6 e7 e8 e9 e10 e11 e12 e13 e14
    clear HN
    go_wp2_with (first | (at_lookup; refine wpList_lookup_own_ok _ rfl (.tmp 12) (.tmp 13) 59 rfl 9 32 law Try.underlying59 tok (zeroP _) (.held zP) [] rfl bm n D rfl (HO.out _) _ (.string a) rfl HK.out ?_; intro v ps hv; rw [HAT.out] at hv; obtain rfl := tok_inv hv; clear hv; rw [HH.out]))
    have hg := two_old w (.cells #[.string ⟨#[]⟩, .int .i64 0, .bool false, .bool false, .slice none 0 0, .slice none 0 0, .slice none 0 0, .int .i64 0] 32) (.cells #[.string ⟨#[]⟩, .int .i64 0, .bool false, .bool false, .slice none 0 0, .slice none 0 0, .slice none 0 0, .int .i64 0] 32)
    obtain ⟨x0, x1, x2, x3, x4, x5, x6, x7⟩ := cell8 hg
    refine bodyPost_ret (v := .tuple #[.agg #[.string ⟨#[]⟩, .int .i64 0, .bool false, .bool false, .slice none 0 0, .slice none 0 0, .slice none 0 0, .int .i64 0], .int .i64 40]) (by simp [results, Try.results26, go_sem, x0, x1, x2, x3, x4, x5, x6, x7]) rfl ?_
    exact ⟨rfl, two_below _ _ _⟩

/-- What Get answers. -/
def GetPost (σ : Sto) (a : Nm) (w : World) (e : Ending) (w' : World) : Prop := ∃ s, e = .returned (.tuple #[pval (gt σ a) s, .int .i64 (errW (σ a).isSome)]) ∧ POwn w' (gt σ a) s ∧ (∀ k, Bl s k → w.heap.size ≤ k) ∧ Below w.heap.size w w'
theorem gt_len {σ : Sto} (h : Oks σ) (a : Nm) : (gt σ a).al.length ≤ 50 ∧ (gt σ a).ac.length ≤ 50 ∧ (gt σ a).gr.length ≤ 20 := by
  cases e : σ a with
  | none => rw [gt_none e]; simp [zp]
  | some p => rw [gt_some e]; have := h a p e; exact ⟨this.la, this.lc, this.gr⟩
set_option maxHeartbeats 2000000 in
set_option maxRecDepth 100000 in
theorem Get_any (w : World) (F : Nat → Prop) (g bm : Nat) (f : Nm → Sl) (σ : Sto) (n : Nat) (h : SP w F g bm f σ n) (a : Nm) (ha : a.length ≤ maxLen) :
    Calls Try.prog 12 #[.pointer (some ⟨g, 0, none⟩), .string ⟨⟨a⟩⟩] w (GetPost σ a w) := by
  have HF : Hid (∀ W, Below w.heap.size w W → Calls Try.prog 26 #[.pointer (some ⟨g, 0, none⟩), .string ⟨⟨a⟩⟩] W fun e w' => e = .returned (.tuple #[pval (gt σ a) (f a), .int .i64 (errW (σ a).isSome)]) ∧ Below W.heap.size W w') := fun W hW => find_any W F g bm f σ n (h.below hW) a ha
  have hpo : ∀ W, Below w.heap.size w W → POwn W (gt σ a) (f a) := fun W hW => (h.own a).below hW
  have hlt := fun k hk => h.lt k (h.fF a k hk).1
  have hlen := gt_len h.ok a
  have HOW : Hid (∀ W, Below w.heap.size w W → Calls Try.prog 27 #[pval (gt σ a) (f a)] W fun e w' => ∃ s, e = .returned (pval (gt σ a) s) ∧ POwn w' (gt σ a) s ∧ (∀ k, Bl s k → W.heap.size ≤ k) ∧ Below W.heap.size W w') := fun W hW =>
    own_any (gt σ a) (Bl (f a)) _ W (hpo W hW).pv (fun b hb => Nat.lt_of_lt_of_le (hlt b hb) hW.size) (by omega) (by omega) (by omega)
  obtain ⟨A, ka, C, kc, G, kg, hs⟩ := (h.own a).forms
  unfold GetPost
  rw [hs] at HF HOW
  generalize gt σ a = p at *
  obtain ⟨er, her⟩ : ∃ er, er = errW (σ a).isSome := ⟨_, rfl⟩
  rw [← her] at HF ⊢
  clear h ha hpo hlt hlen hs her
  obtain ⟨nm, ver, tr, se, al, ac, gr, li⟩ := p
  simp only [pval] at *
  generalize al.length = la at *
  generalize ac.length = lc at *
  generalize gr.length = lg at *
  go_enter Try.func12, Try.ntmps12
  go_wp2_with fail
  obtain ⟨W1, hW1⟩ : ∃ W1, W1 = w.alloc (.cells #[.string ⟨#[]⟩, .int .i64 0, .bool false, .bool false, .slice none 0 0, .slice none 0 0, .slice none 0 0, .int .i64 0] 32) := ⟨_, rfl⟩
  obtain ⟨z, hz⟩ : ∃ z, z = w.heap.size := ⟨_, rfl⟩
  have HB1 : Hid (Below w.heap.size w W1) := by rw [hW1]; exact (Below.refl _ _).alloc (Nat.le_refl _) _
  have HG1 : Hid (W1.heap[z]? = some (.cells #[.string ⟨#[]⟩, .int .i64 0, .bool false, .bool false, .slice none 0 0, .slice none 0 0, .slice none 0 0, .int .i64 0] 32 (0, 0))) := by rw [hW1, hz]; exact heap_alloc_new _ _
  rw [← hz, ← hW1]
  have HZ := Lib.hid hz
  clear hW1 hz
  refine (HF.out W1 HB1.out).mono ?_
  rintro _ W2 ⟨rfl, b2⟩
  have HB2 := Lib.hid (HB1.out.trans (b2.mono HB1.out.size))
  have HG2 := Lib.hid ((b2.block z (Array.getElem?_eq_some_iff.1 HG1.out).1).trans HG1.out)
  clear b2 HB1 HG1 HF
  go_wp2_with fail
  have HB3 := Lib.hid (HB2.out.alloc (o := .cells #[.string ⟨⟨nm⟩⟩, .int .i64 ver, .bool tr, .bool se, .slice A la ka, .slice C lc kc, .slice G lg kg, .int .i64 li] 32) HB2.out.size)
  have HG3 := Lib.hid ((heap_alloc_old W2 (.cells #[.string ⟨⟨nm⟩⟩, .int .i64 ver, .bool tr, .bool se, .slice A la ka, .slice C lc kc, .slice G lg kg, .int .i64 li] 32) (Array.getElem?_eq_some_iff.1 HG2.out).1).trans HG2.out)
  clear HB2 HG2
  generalize W2.alloc (.cells #[.string ⟨⟨nm⟩⟩, .int .i64 ver, .bool tr, .bool se, .slice A la ka, .slice C lc kc, .slice G lg kg, .int .i64 li] 32) = W3 at *
  generalize W2.heap.size = z2 at *
  refine (HOW.out W3 HB3.out).mono ?_
  rintro _ W4 ⟨s, rfl, ho, hl, b4⟩
  obtain ⟨A', a', C', c', G', g', rfl⟩ := ho.forms
  simp only at *
  have hg4 := (b4.block z (Array.getElem?_eq_some_iff.1 HG3.out).1).trans HG3.out
  have hzl := (Array.getElem?_eq_some_iff.1 HG3.out).1
  obtain ⟨y0, y1, y2, y3, y4, y5, y6, y7⟩ := cell8 hg4
  have hf := fun k => frozen_of_row _ _ k _ _ hg4
  have hres := set8_self (v0 := .string ⟨⟨nm⟩⟩) (v1 := .int .i64 ver) (v2 := .bool tr) (v3 := .bool se) (v4 := .slice A' al.length a') (v5 := .slice C' ac.length c') (v6 := .slice G' gr.length g') (v7 := .int .i64 li) hg4
  have hbel := set8_below (z := z) (v0 := .string ⟨⟨nm⟩⟩) (v1 := .int .i64 ver) (v2 := .bool tr) (v3 := .bool se) (v4 := .slice A' al.length a') (v5 := .slice C' ac.length c') (v6 := .slice G' gr.length g') (v7 := .int .i64 li) (HB3.out.trans (b4.mono HB3.out.size)) (by rw [← HZ.out]; exact Nat.le_refl _)
  have HX : Hid (∀ k, k ≠ z → (set8 W4 z (.string ⟨⟨nm⟩⟩) (.int .i64 ver) (.bool tr) (.bool se) (.slice A' al.length a') (.slice C' ac.length c') (.slice G' gr.length g') (.int .i64 li)).heap[k]? = W4.heap[k]?) := fun k hk => set8_other hk
  have HRES := Lib.hid hres
  have HBEL := Lib.hid hbel
  have HO := Lib.hid ho
  have HL := Lib.hid hl
  have HZL := Lib.hid hzl
  clear hg4 hres hbel ho hl hzl b4 HOW HG3
  go_wp2
  obtain ⟨x0, x1, x2, x3, x4, x5, x6, x7⟩ := cell8 HRES.out
  unfold set8 at *
  refine bodyPost_ret (v := .tuple #[.agg #[.string ⟨⟨nm⟩⟩, .int .i64 ver, .bool tr, .bool se, .slice A' al.length a', .slice C' ac.length c', .slice G' gr.length g', .int .i64 li], .int .i64 er]) (by simp [results, Try.results12, go_sem, x0, x1, x2, x3, x4, x5, x6, x7]) rfl ?_
  exact ⟨_, rfl, HO.out.keep (fun k hk => HX.out k (by have := HL.out k hk; have := HZL.out; omega)), fun k hk => Nat.le_trans HB3.out.size (HL.out k hk), HBEL.out⟩
end Go.Proofs.Ytehmfkcihieecaa.Po
