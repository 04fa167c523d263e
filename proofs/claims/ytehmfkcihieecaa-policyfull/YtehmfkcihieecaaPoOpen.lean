/- Acts as an argument: opened. (Laid with NS=1; written by wip/tools/gen/pot.py.) -/
import Derived.Test.YtehmfkcihieecaaPoA1
import Derived.WalkKit
import Derived.OpenShut
import Derived.ShutString
import Derived.ChangeOld
import Derived.ChangeArms
import Derived.Lib.SmallJoins
import Derived.Deep.Slices
import Derived.ProofKit
namespace Go.Proofs.Ytehmfkcihieecaa.Po
open Go.RowKit Go.ChangeShapes Go.WideShapes Go.Deep Go.Joins
open Te Te.Tt
open Go (Lit DataW MemPlace keyOf maxLen)

set_option maxRecDepth 100000
instance : Inhabited Pr := ⟨zp⟩
instance : Inhabited Ac := ⟨⟨0, zp, [], [], false⟩⟩
theorem cells9 : Try.prog.cellsOf 9 = 1 := by kernel_rfl
theorem cells3 : Try.prog.cellsOf 3 = 1 := by kernel_rfl
theorem cells4 : Try.prog.cellsOf 4 = 1 := by kernel_rfl
theorem cellsS : Try.prog.cellsOf 29 = 1 := by kernel_rfl
theorem cellsI : Try.prog.cellsOf 30 = 1 := by kernel_rfl
theorem cellsP : Try.prog.cellsOf 32 = 8 := by kernel_rfl
theorem cellsA : Try.prog.cellsOf 34 = 12 := by kernel_rfl
section
variable {H : Type} {enc : TypeId × Value → H} {w : World} {base : Nat} {spare : Nat → Bool} {held : Bool}
theorem strs_trod {fuel : Nat} {cs : List Value} {x : DataW H × List MemPlace} (h : DataW.trod enc Try.prog w base spare held fuel 29 cs = some x) :
    ∃ (l : List Nm) (A : Option Addr) (ca : Nat), cs = [.slice A l.length ca] ∧ SRd w (fun b => b < w.heap.size) l A ∧ l.length ≤ ca := by
  rcases open_slice1 Try.underlying29 cells9 h with ⟨hcs, -⟩ | ⟨a, len, cap, m, n, V, D, Pl, hcs, hb, hl, hm, hmm, he, hi⟩
  · exact ⟨[], none, 0, hcs, .inl rfl, Nat.le_refl _⟩
  · have hlm : len ≤ m := by rw [hmm]; split <;> omega
    have hall : ∀ i, i < len → ∃ s : Nm, w.cell? (a.add i) = some (.string ⟨⟨s⟩⟩) := by
      intro i hil
      obtain ⟨hc, ht⟩ := hi i (by omega)
      obtain ⟨s, e, -, -⟩ := DataW.trod_string Try.underlying9 ht
      injection e with e
      obtain ⟨⟨s⟩⟩ := s
      exact ⟨s, by rw [hc, e]⟩
    obtain ⟨f, hf⟩ := choose_lt hall
    refine ⟨(List.range len).map f, some a, cap, by rw [hcs]; simp, ?_, by simpa using hl⟩
    rcases Nat.eq_zero_or_pos len with h0 | hpos
    · subst h0; exact .inl rfl
    · have hc0 := hf 0 hpos
      obtain ⟨b, o, sp⟩ := a
      have hsp : sp = none := by
        have := World.cell?_spot hc0
        simpa [Addr.add] using this
      subst hsp
      have hblt : b < w.heap.size := by
        have := World.block_lt_of_cell? _ _ hc0
        simpa [Addr.add_lit] using this
      refine .inr ⟨b, o, rfl, hblt, fun i h => ?_⟩
      have hil : i < len := by simpa using h
      have := hf i hil
      rw [List.getElem_map, List.getElem_range]
      simpa [Addr.add_lit] using this
theorem ints_trod {fuel : Nat} {cs : List Value} {x : DataW H × List MemPlace} (h : DataW.trod enc Try.prog w base spare held fuel 30 cs = some x) :
    ∃ (l : List Int) (A : Option Addr) (ca : Nat), cs = [.slice A l.length ca] ∧ IRd w (fun b => b < w.heap.size) l A := by
  rcases open_slice1 Try.underlying30 cells3 h with ⟨hcs, -⟩ | ⟨a, len, cap, m, n, V, D, Pl, hcs, hb, hl, hm, hmm, he, hi⟩
  · exact ⟨[], none, 0, hcs, .inl rfl⟩
  · have hlm : len ≤ m := by rw [hmm]; split <;> omega
    have hall : ∀ i, i < len → ∃ s : Int, w.cell? (a.add i) = some (.int .i64 s) := by
      intro i hil
      obtain ⟨hc, ht⟩ := hi i (by omega)
      obtain ⟨s, e, -, -⟩ := DataW.trod_int Try.underlying3 ht
      injection e with e
      exact ⟨s, by rw [hc, e]⟩
    obtain ⟨f, hf⟩ := choose_lt hall
    refine ⟨(List.range len).map f, some a, cap, by rw [hcs]; simp, ?_⟩
    rcases Nat.eq_zero_or_pos len with h0 | hpos
    · subst h0; exact .inl rfl
    · have hc0 := hf 0 hpos
      obtain ⟨b, o, sp⟩ := a
      have hsp : sp = none := by
        have := World.cell?_spot hc0
        simpa [Addr.add] using this
      subst hsp
      have hblt : b < w.heap.size := by
        have := World.block_lt_of_cell? _ _ hc0
        simpa [Addr.add_lit] using this
      refine .inr ⟨b, o, rfl, hblt, fun i h => ?_⟩
      have hil : i < len := by simpa using h
      have := hf i hil
      rw [List.getElem_map, List.getElem_range]
      simpa [Addr.add_lit] using this
/-- Eight cells that read as a principal are one. -/
theorem prin_trod {fuel : Nat} {c0 c1 c2 c3 c4 c5 c6 c7 : Value} {x : DataW H × List MemPlace} (h : DataW.trod enc Try.prog w base spare held fuel 32 [c0, c1, c2, c3, c4, c5, c6, c7] = some x) :
    ∃ (p : Pr) (A : Option Addr) (a : Nat) (C : Option Addr) (c : Nat) (G : Option Addr) (g : Nat), (#[c0, c1, c2, c3, c4, c5, c6, c7] : Array Value) = #[.string ⟨⟨p.nm⟩⟩, .int .i64 p.ver, .bool p.tr, .bool p.se, .slice A p.al.length a, .slice C p.ac.length c, .slice G p.gr.length g, .int .i64 p.li] ∧ p.nm.length ≤ maxLen ∧
      SRd w (fun b => b < w.heap.size) p.al A ∧ SRd w (fun b => b < w.heap.size) p.ac C ∧ IRd w (fun b => b < w.heap.size) p.gr G ∧ p.al.length ≤ a ∧ p.ac.length ≤ c := by
  obtain ⟨xs, n, -, -, -, hl, hf⟩ := DataW.trod_struct Try.underlying32 h
  match xs, hl with
  | [y0, y1, y2, y3, y4, y5, y6, y7], _ =>
    have h0 := hf 0 _ rfl
    have h1 := hf 1 _ rfl
    have h2 := hf 2 _ rfl
    have h3 := hf 3 _ rfl
    have h4 := hf 4 _ rfl
    have h5 := hf 5 _ rfl
    have h6 := hf 6 _ rfl
    have h7 := hf 7 _ rfl
    simp only [List.getElem?_cons_zero, List.getElem?_cons_succ] at h0 h1 h2 h3 h4 h5 h6 h7
    obtain ⟨s, e0, -, hs⟩ := DataW.trod_string Try.underlying9 h0
    obtain ⟨v, e1, -, -⟩ := DataW.trod_int Try.underlying3 h1
    obtain ⟨t, e2, -⟩ := DataW.trod_bool Try.underlying4 h2
    obtain ⟨se, e3, -⟩ := DataW.trod_bool Try.underlying4 h3
    obtain ⟨al, A, a, e4, r4, k4⟩ := strs_trod h4
    obtain ⟨ac, C, c, e5, r5, k5⟩ := strs_trod h5
    obtain ⟨gr, G, g, e6, r6⟩ := ints_trod h6
    obtain ⟨li, e7, -, -⟩ := DataW.trod_int Try.underlying3 h7
    injection e0 with e0
    injection e1 with e1
    injection e2 with e2
    injection e3 with e3
    injection e4 with e4
    injection e5 with e5
    injection e6 with e6
    injection e7 with e7
    subst e0 e1 e2 e3 e4 e5 e6 e7
    obtain ⟨⟨s⟩⟩ := s
    exact ⟨⟨s, v, t, se, al, ac, gr, li⟩, A, a, C, c, G, g, rfl, hs, r4, r5, r6, k4, k5⟩
theorem act_trod {fuel : Nat} {b o : Nat} {cs : List Value} {x : DataW H × List MemPlace} (h : DataW.trod enc Try.prog w base spare held fuel 34 cs = some x) (hc : ∀ i u, cs[i]? = some u → w.cell? ⟨b, o + i, none⟩ = some u) :
    ∃ y : Ac, AAt w (fun b => b < w.heap.size) y b o ∧ AOk y := by
  obtain ⟨xs, n, -, -, hcl, hl, hf⟩ := DataW.trod_struct Try.underlying34 h
  rw [cellsA] at hcl
  match xs, hl, cs, hcl with
  | [y0, y1, y2, y3, y4], _, [c0, c1, c2, c3, c4, c5, c6, c7, c8, c9, c10, c11], _ =>
    have h0 := hf 0 _ rfl
    have h1 := hf 1 _ rfl
    have h2 := hf 2 _ rfl
    have h3 := hf 3 _ rfl
    have h4 := hf 4 _ rfl
    simp only [List.getElem?_cons_zero, List.getElem?_cons_succ] at h0 h1 h2 h3 h4
    obtain ⟨k, e0, -, hk⟩ := DataW.trod_int Try.underlying3 h0
    obtain ⟨p, A, a, C, c, G, g, ep, hn, r4, r5, r6, k4, k5⟩ := prin_trod h1
    obtain ⟨s, e9, -, hs⟩ := DataW.trod_string Try.underlying9 h2
    obtain ⟨t, e10, -, ht⟩ := DataW.trod_string Try.underlying9 h3
    obtain ⟨on, e11, -⟩ := DataW.trod_bool Try.underlying4 h4
    injection e0 with e0
    injection e9 with e9
    injection e10 with e10
    injection e11 with e11
    simp at ep
    obtain ⟨f0, f1, f2, f3, f4, f5, f6, f7⟩ := ep
    subst e0 e9 e10 e11 f0 f1 f2 f3 f4 f5 f6 f7
    obtain ⟨⟨s⟩⟩ := s
    obtain ⟨⟨t⟩⟩ := t
    have hin : InR k := by simpa [InR, Lit.wf, IntKind.min, IntKind.max, IntKind.signed, IntKind.bits] using hk
    refine ⟨⟨k, p, s, t, on⟩, ⟨A, a, C, c, G, g, hc 0 _ rfl, hc 1 _ rfl, hc 2 _ rfl, hc 3 _ rfl, hc 4 _ rfl, hc 5 _ rfl, hc 6 _ rfl, hc 7 _ rfl, hc 8 _ rfl, hc 9 _ rfl, hc 10 _ rfl, hc 11 _ rfl, r4, r5, r6, k4, k5⟩, hin, hn, hs, ht⟩
theorem acts_arg {r : Reach} {b0 : Nat} {v : Value} {d : DataW H} {p : List MemPlace}
    (hv : Value.okWide Try.prog w r b0 22 v) (h : DataW.Trod enc Try.prog w base spare held 22 v d p) :
    ∃ (l : List Ac) (A : Option Addr) (ca : Nat), v = .slice A l.length ca ∧ ARow w (fun b => b < w.heap.size) l A ∧ l.length ≤ maxLen ∧ ∀ x ∈ l, AOk x := by
  obtain ⟨a0, len0, cap0, rfl⟩ := okWide_slice Try.underlying22 hv
  obtain ⟨fuel, hf0⟩ := h
  rcases open_slice Try.underlying22 (by simpa [Value.cells] using hf0) with ⟨hcs, -⟩ | ⟨a, len, cap, m, n, D, Pl, hcs, hb, hl, hm, hmm, -, hi⟩
  · injection hcs with hcs
    injection hcs with e1 e2 e3
    subst e1 e2 e3
    exact ⟨[], none, 0, rfl, .inl rfl, Nat.zero_le _, fun x hx => by cases hx⟩
  · injection hcs with hcs
    injection hcs with e1 e2 e3
    subst e1 e2 e3
    have hlm : len0 ≤ m := by rw [hmm]; split <;> omega
    rw [cellsA] at hi
    rcases Nat.eq_zero_or_pos len0 with h0 | hpos
    · subst h0
      exact ⟨[], some a, cap0, rfl, .inl rfl, Nat.zero_le _, fun x hx => by cases hx⟩
    · obtain ⟨b, o, sp⟩ := a
      obtain ⟨cs0, hc0, ht0⟩ := hi 0 (by omega)
      obtain ⟨hl0, _, hat0⟩ := World.cells?_some hc0
      obtain ⟨u0, hu0⟩ : ∃ u, cs0[0]? = some u := ⟨_, List.getElem?_eq_getElem (by omega)⟩
      have hc00 := (hat0 0 (by omega)).trans hu0
      have hsp : sp = none := by
        have := World.block_lt_of_cell? _ _ hc00
        have h2 := World.cell?_spot hc00
        simpa [Addr.add] using h2
      subst hsp
      have hblt : b < w.heap.size := by
        have := World.block_lt_of_cell? _ _ hc00
        simpa [Addr.add_lit] using this
      have hall : ∀ i, i < len0 → ∃ y : Ac, AAt w (fun b => b < w.heap.size) y b (o + i * 12) ∧ AOk y := by
        intro i hil
        obtain ⟨cs', hc, ht⟩ := hi i (by omega)
        obtain ⟨hl1, _, hat⟩ := World.cells?_some hc
        refine act_trod ht (fun j u hj => ?_)
        have hj' : j < 12 := by
          have := (List.getElem?_eq_some_iff.1 hj).1
          omega
        have h1 := hat j hj'
        rw [hj] at h1
        simpa [Addr.add_lit, Nat.add_assoc] using h1
      obtain ⟨f, hf⟩ := choose_lt hall
      refine ⟨(List.range len0).map f, some ⟨b, o, none⟩, cap0, by simp, .inr ⟨b, o, rfl, hblt, fun i h => ?_⟩, by simp; omega, fun x hx => ?_⟩
      · have hil : i < len0 := by simpa using h
        rw [List.getElem_map, List.getElem_range]
        exact (hf i hil).1
      · obtain ⟨i, hi', rfl⟩ := List.mem_map.1 hx
        exact (hf i (List.mem_range.1 hi')).2
end
theorem ownT : ownKnob Try.prog.godebug = none := by kernel_rfl
theorem laidT : laidOutB Try.prog = true := by kernel_rfl
end Go.Proofs.Ytehmfkcihieecaa.Po
