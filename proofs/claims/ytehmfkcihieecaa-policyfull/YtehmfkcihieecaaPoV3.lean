/- The document's Same of principals. (Laid with NS=1; written by wip/tools/gen/pov3.py.) -/
import Derived.Test.YtehmfkcihieecaaPoV2
namespace Go.Proofs.Ytehmfkcihieecaa.Po
open Go.RowKit Go.Sort
open Te Te.Tt
open Go (Lit DataW MemPlace keyOf maxLen)

def pEq (p q : Pr) : Bool := decide (p.al = q.al) && (decide (p.ac = q.ac) && (decide (p.gr = q.gr) && (decide (p.nm = q.nm) && (decide (p.ver = q.ver) && (decide (p.tr = q.tr) && (decide (p.se = q.se) && decide (p.li = q.li)))))))
theorem pEq_iff {p q : Pr} : pEq p q = true ↔ p = q := by
  obtain ⟨nm, ver, tr, se, al, ac, gr, li⟩ := p
  obtain ⟨nm', ver', tr', se', al', ac', gr', li'⟩ := q
  simp only [pEq, Bool.and_eq_true, decide_eq_true_eq, Pr.mk.injEq]
  constructor
  · rintro ⟨h1, h2, h3, h4, h5, h6, h7, h8⟩; exact ⟨h4, h5, h6, h7, h1, h2, h3, h8⟩
  · rintro ⟨h4, h5, h6, h7, h1, h2, h3, h8⟩; exact ⟨h1, h2, h3, h4, h5, h6, h7, h8⟩
set_option maxHeartbeats 4000000 in
set_option maxRecDepth 100000 in
theorem Same_any (p q : Pr) (S : Nat → Prop) (v v' : Value) (w : World) (hp : PV w S p v) (hq : PV w S q v') (hS : ∀ b, S b → b < w.heap.size) (h1 : p.al.length ≤ 1000000) (h2 : p.ac.length ≤ 1000000) (h3 : p.gr.length ≤ 1000000) :
    Calls Try.prog 15 #[v, v'] w fun e w' => e = .returned (.bool (pEq p q)) ∧ RowKit.Below w.heap.size w w' := by
  obtain ⟨A, a, C, c, G, g, rfl, hA, hC, hG, -, -⟩ := hp
  obtain ⟨A', a', C', c', G', g', rfl, hA', hC', hG', -, -⟩ := hq
  have HR1 : Hid (∀ W, RowKit.Below w.heap.size w W → Calls Try.prog 32 #[.slice A p.al.length a, .slice A' q.al.length a'] W fun e w' => e = .returned (.bool (decide (p.al = q.al))) ∧ RowKit.Below W.heap.size W w') := fun W hW => SameRow_any p.al q.al A A' a a' S W (hA.keep (fun _ h => h) (fun b hb => hW.block b (hS b hb))) (hA'.keep (fun _ h => h) (fun b hb => hW.block b (hS b hb))) (fun b hb => Nat.lt_of_lt_of_le (hS b hb) hW.size) h1
  have HR2 : Hid (∀ W, RowKit.Below w.heap.size w W → Calls Try.prog 32 #[.slice C p.ac.length c, .slice C' q.ac.length c'] W fun e w' => e = .returned (.bool (decide (p.ac = q.ac))) ∧ RowKit.Below W.heap.size W w') := fun W hW => SameRow_any p.ac q.ac C C' c c' S W (hC.keep (fun _ h => h) (fun b hb => hW.block b (hS b hb))) (hC'.keep (fun _ h => h) (fun b hb => hW.block b (hS b hb))) (fun b hb => Nat.lt_of_lt_of_le (hS b hb) hW.size) h2
  have HG1 : Hid (∀ W, RowKit.Below w.heap.size w W → IRd W S p.gr G ∧ IRd W S q.gr G') := fun W hW => ⟨hG.keep (fun _ h => h) (fun b hb => hW.block b (hS b hb)), hG'.keep (fun _ h => h) (fun b hb => hW.block b (hS b hb))⟩
  have HT : Hid (p.al = q.al → p.ac = q.ac → p.gr = q.gr → p.nm = q.nm → p.ver = q.ver → p.tr = q.tr → p.se = q.se → p.li = q.li → pEq p q = true) := fun e1 e2 e3 e4 e5 e6 e7 e8 => by simp [pEq, e1, e2, e3, e4, e5, e6, e7, e8]
  have HF : Hid (p.al ≠ q.al ∨ p.ac ≠ q.ac ∨ p.gr ≠ q.gr ∨ p.nm ≠ q.nm ∨ p.ver ≠ q.ver ∨ p.tr ≠ q.tr ∨ p.se ≠ q.se ∨ p.li ≠ q.li → pEq p q = false) := fun h => by
    rw [Bool.eq_false_iff]
    intro e
    rw [pEq_iff] at e
    subst e
    simp at h
  clear hA hC hG hA' hC' hG' hS h1 h2
  generalize pEq p q = R at *
  obtain ⟨nm, ver, tr, se, al, ac, gr, li⟩ := p
  obtain ⟨nm', ver', tr', se', al', ac', gr', li'⟩ := q
  simp only at *
  obtain ⟨x1, hx1⟩ : ∃ x, x = decide (al = al') := ⟨_, rfl⟩
  obtain ⟨x2, hx2⟩ : ∃ x, x = decide (ac = ac') := ⟨_, rfl⟩
  rw [← hx1] at HR1
  rw [← hx2] at HR2
  have HX1 := Lib.hid hx1
  have HX2 := Lib.hid hx2
  clear hx1 hx2
  obtain ⟨W2, hW2⟩ : ∃ W2, W2 = (w.alloc (.cells #[.string ⟨⟨nm⟩⟩, .int .i64 ver, .bool tr, .bool se, .slice A al.length a, .slice C ac.length c, .slice G gr.length g, .int .i64 li] 32)).alloc (.cells #[.string ⟨⟨nm'⟩⟩, .int .i64 ver', .bool tr', .bool se', .slice A' al'.length a', .slice C' ac'.length c', .slice G' gr'.length g', .int .i64 li'] 32) := ⟨_, rfl⟩
  obtain ⟨z, hz⟩ : ∃ z, z = w.heap.size := ⟨_, rfl⟩
  have hb : RowKit.Below w.heap.size w W2 := by rw [hW2]; exact two_below _ _ _
  have hg0 : W2.heap[z]? = some (.cells #[.string ⟨⟨nm⟩⟩, .int .i64 ver, .bool tr, .bool se, .slice A al.length a, .slice C ac.length c, .slice G gr.length g, .int .i64 li] 32 (0, 0)) := by rw [hW2, hz]; exact two_old _ _ _
  have hg1 : W2.heap[z + 1]? = some (.cells #[.string ⟨⟨nm'⟩⟩, .int .i64 ver', .bool tr', .bool se', .slice A' al'.length a', .slice C' ac'.length c', .slice G' gr'.length g', .int .i64 li'] 32 (0, 0)) := by
    rw [hW2, hz]
    have := heap_alloc_new (w.alloc (.cells #[.string ⟨⟨nm⟩⟩, .int .i64 ver, .bool tr, .bool se, .slice A al.length a, .slice C ac.length c, .slice G gr.length g, .int .i64 li] 32)) (.cells #[.string ⟨⟨nm'⟩⟩, .int .i64 ver', .bool tr', .bool se', .slice A' al'.length a', .slice C' ac'.length c', .slice G' gr'.length g', .int .i64 li'] 32)
    rwa [World.size_alloc] at this
  have HC : Hid (∀ W, RowKit.Below W2.heap.size W2 W → RowKit.Below w.heap.size w W ∧ W.heap[z]? = some (.cells #[.string ⟨⟨nm⟩⟩, .int .i64 ver, .bool tr, .bool se, .slice A al.length a, .slice C ac.length c, .slice G gr.length g, .int .i64 li] 32 (0, 0)) ∧ W.heap[z + 1]? = some (.cells #[.string ⟨⟨nm'⟩⟩, .int .i64 ver', .bool tr', .bool se', .slice A' al'.length a', .slice C' ac'.length c', .slice G' gr'.length g', .int .i64 li'] 32 (0, 0))) := fun W h =>
    ⟨hb.trans (h.mono hb.size), (h.block z (Array.getElem?_eq_some_iff.1 hg0).1).trans hg0, (h.block (z + 1) (Array.getElem?_eq_some_iff.1 hg1).1).trans hg1⟩
  have HW2 := Lib.hid hW2
  have HZ := Lib.hid hz
  clear hb hg0 hg1 hW2 hz
  generalize hla : al.length = la at *
  generalize hlc : ac.length = lc at *
  generalize hlg : gr.length = lg at *
  generalize hla' : al'.length = la' at *
  generalize hlc' : ac'.length = lc' at *
  generalize hlg' : gr'.length = lg' at *
  have HLG := Lib.hid (And.intro hlg hlg')
  clear hla hlc hlg hla' hlc' hlg'
  go_enter Try.func15, Try.ntmps15
  go_wp2_with fail
  rw [← HZ.out, ← HW2.out]
  refine (HR1.out W2 (HC.out W2 (RowKit.Below.refl _ _)).1).mono ?_
  rintro _ w3 ⟨rfl, b3⟩
  have HB3 := Lib.hid b3
  obtain ⟨hb3, hg0, hg1⟩ := HC.out w3 b3
  obtain ⟨c0, c1, c2, c3, c4, c5, c6, c7⟩ := cell8 hg0
  obtain ⟨d0, d1, d2, d3, d4, d5, d6, d7⟩ := cell8 hg1
  have HBW := Lib.hid hb3
  clear b3 hb3 hg0 hg1 HR1 HW2
  cases x1
  case false =>
    obtain rfl := HF.out (.inl (of_decide_eq_false HX1.out.symm))
    clear HF HT
    go_wp2
    go_ret
    exact ⟨rfl, HBW.out⟩
  case true =>
  have he1 := of_decide_eq_true HX1.out.symm
  subst he1
  go_wp2_with fail
  refine (HR2.out w3 HBW.out).mono ?_
  rintro _ w4 ⟨rfl, b4⟩
  have HB4 := Lib.hid (HB3.out.trans (b4.mono HB3.out.size))
  clear b4 HBW HB3 HR2 c0 c1 c2 c3 c4 c5 c6 c7 d0 d1 d2 d3 d4 d5 d6 d7
  obtain ⟨hb4, hg0, hg1⟩ := HC.out w4 HB4.out
  obtain ⟨c0, c1, c2, c3, c4, c5, c6, c7⟩ := cell8 hg0
  obtain ⟨d0, d1, d2, d3, d4, d5, d6, d7⟩ := cell8 hg1
  have HBW := Lib.hid hb4
  clear hb4 hg0 hg1
  cases x2
  case false =>
    obtain rfl := HF.out (.inr (.inl (of_decide_eq_false HX2.out.symm)))
    clear HF HT
    go_wp2
    go_ret
    exact ⟨rfl, HBW.out⟩
  case true =>
  have he2 := of_decide_eq_true HX2.out.symm
  subst he2
  by_cases hgl : lg = lg'
  case neg =>
    obtain rfl := HF.out (.inr (.inr (.inl (fun e => hgl (by rw [← HLG.out.1, ← HLG.out.2, e])))))
    have i1 : ((lg : Int) == (lg' : Int)) = false := by simp; omega
    clear HF HT
    go_wp2
    go_ret
    exact ⟨rfl, HBW.out⟩
  subst hgl
  go_wp2
  clear c0 c1 c2 c3 c4 c5 c6 c7 d0 d1 d2 d3 d4 d5 d6 d7
  go_loopw [5] (fun iv wr => ∃ i : Nat, i ≤ lg ∧ iv = .int .i64 (i : Nat) ∧ Hid (gr.take i = gr'.take i) ∧ Hid (RowKit.Below W2.heap.size W2 wr)) (fun iv _ => lg - (intOf iv).toNat)
  case atStart => exact ⟨0, by omega, rfl, Lib.hid (by simp), HB4.out⟩
  case round =>
    obtain ⟨i, hi, rfl, HTK, HB⟩ := hrel
    clear HB4 HBW
    obtain ⟨hbw, hg0, hg1⟩ := HC.out wr HB.out
    obtain ⟨c0, c1, c2, c3, c4, c5, c6, c7⟩ := cell8 hg0
    obtain ⟨d0, d1, d2, d3, d4, d5, d6, d7⟩ := cell8 hg1
    have HBW := Lib.hid hbw
    clear hbw hg0 hg1
    by_cases hlt : i < lg
    · have hil : (i : Int) < (lg : Int) := by omega
      have hl1 : i < gr.length := by rw [HLG.out.1]; exact hlt
      have hq1 : i < gr'.length := by rw [HLG.out.2]; exact hlt
      obtain ⟨hGG, hGG'⟩ := HG1.out wr HBW.out
      obtain ⟨b, o, rfl, hSb, hcb⟩ := hGG.resolve_left (fun h => by rw [h] at hl1; simp at hl1)
      obtain ⟨b2, o2, rfl, hSb2, hcb2⟩ := hGG'.resolve_left (fun h => by rw [h] at hq1; simp at hq1)
      have x0 := hcb i hl1
      have y0 := hcb2 i hq1
      have HEQ : Hid (gr[i] = gr'[i] → gr.take (i + 1) = gr'.take (i + 1)) := fun e => take_next hl1 hq1 HTK.out e
      have HNE : Hid (gr[i] ≠ gr'[i] → R = false) := fun e => HF.out (.inr (.inr (.inl (ne_of_at hl1 hq1 e))))
      generalize gr[i] = x at *
      generalize gr'[i] = y at *
      clear hcb hcb2 hSb hSb2 HTK hl1 hq1
      have j0 := fun d os => cell_regrown x0 d os
      have j1 := fun d os => cell_regrown y0 d os
      have j2 := fun d os => cell_regrown c6 d os
      have j3 := fun d os => cell_regrown d6 d os
      clear x0 y0
      by_cases hxy : x = y
      · subst hxy
        have HT2 := Lib.hid (HEQ.out rfl)
        clear HEQ HNE
        go_wp2_with fail
        refine wp_region_quiet_below (by kernel_rfl) (by kernel_rfl) ?_
        repeat (quiet_step (fail))
        refine wpQuiet_nil ?_
        intro _ hw'
        obtain ⟨⟨dq, osq⟩, hw''⟩ := hw'
        subst hw''
        have HB2 := Lib.hid (HB.out.trans ((below_regrown wr dq osq).mono HB.out.size))
        clear j0 j1 j2 j3 c0 c1 c2 c3 c4 c5 c6 c7 d0 d1 d2 d3 d4 d5 d6 d7
        generalize grow (redrawn wr dq) osq = w2 at *
        go_wp2
        go_roundw
        case rel => exact ⟨i + 1, by omega, by go_num, HT2, HB2⟩
        case measure => simp [intOf]; omega
      · have hbeq : (x == y) = false := by simp [hxy]
        obtain rfl := HNE.out hxy
        clear HEQ HNE
        go_wp2_with fail
        refine wp_region_quiet_below (by kernel_rfl) (by kernel_rfl) ?_
        repeat (quiet_step (fail))
        refine wpQuiet_nil ?_
        intro _ hw'
        obtain ⟨⟨dq, osq⟩, hw''⟩ := hw'
        subst hw''
        have HB2 := Lib.hid (HBW.out.trans ((below_regrown wr dq osq).mono HBW.out.size))
        clear j0 j1 j2 j3 c0 c1 c2 c3 c4 c5 c6 c7 d0 d1 d2 d3 d4 d5 d6 d7
        generalize grow (redrawn wr dq) osq = w2 at *
        go_wp2
        go_ret
        exact ⟨rfl, HB2.out⟩
    · have hil : ¬ (i : Int) < (lg : Int) := by omega
      have HGE := Lib.hid (eq_of_take (by rw [HLG.out.1]; omega) (by rw [HLG.out.2]; omega) HTK.out)
      clear HTK
      by_cases h : nm = nm'
      case neg =>
        have hbeq : (nm == nm') = false := by simpa using h
        obtain rfl := HF.out (.inr (.inr (.inr (.inl h))))
        clear HF HT HGE
        go_wp2
        go_ret
        exact ⟨rfl, HBW.out⟩
      subst h
      by_cases h : ver = ver'
      case neg =>
        have hbeq : (ver == ver') = false := by simpa using h
        obtain rfl := HF.out (.inr (.inr (.inr (.inr (.inl h)))))
        clear HF HT HGE
        go_wp2
        go_ret
        exact ⟨rfl, HBW.out⟩
      subst h
      by_cases h : tr = tr'
      case neg =>
        have hbeq : (tr == tr') = false := by simpa using h
        obtain rfl := HF.out (.inr (.inr (.inr (.inr (.inr (.inl h))))))
        clear HF HT HGE
        go_wp2
        go_ret
        exact ⟨rfl, HBW.out⟩
      subst h
      by_cases h : se = se'
      case neg =>
        have hbeq : (se == se') = false := by simpa using h
        obtain rfl := HF.out (.inr (.inr (.inr (.inr (.inr (.inr (.inl h)))))))
        clear HF HT HGE
        go_wp2
        go_ret
        exact ⟨rfl, HBW.out⟩
      subst h
      by_cases h : li = li'
      case neg =>
        have hbeq : (li == li') = false := by simpa using h
        obtain rfl := HF.out (.inr (.inr (.inr (.inr (.inr (.inr (.inr (h))))))))
        clear HF HT HGE
        go_wp2
        go_ret
        exact ⟨rfl, HBW.out⟩
      subst h
      have e : R = true := HT.out (by trivial) (by trivial) HGE.out (by trivial) (by trivial) (by trivial) (by trivial) (by trivial)
      subst e
      clear HF HT HGE
      go_wp2
      go_ret
      exact ⟨rfl, HBW.out⟩
end Go.Proofs.Ytehmfkcihieecaa.Po
