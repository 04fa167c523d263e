/- An argument that is a term, a row of terms, a row of texts: opened. -/
import Derived.Test.YtiidooponlbnmaaDoorTmW5
import Derived.WalkKit
import Derived.OpenShut
import Derived.ShutString
import Derived.ChangeOld
import Derived.JoinedCond
import Derived.Lib.SmallJoins
import Derived.Deep.Slices
import Derived.ProofKit
namespace Go.Proofs.YtiidooponlbnmaaDoor.Te
open Go.RowKit Go.ChangeShapes Go.WideShapes Go.Deep Go.Joins
open Tt

set_option maxRecDepth 100000

theorem reps_of {w : World} {S : Nat → Prop} {b : Nat} : ∀ (l : List Tm) (o : Nat), (∀ i x, l[i]? = some x → ∃ v0 v1 v2 v3, w.cell? ⟨b, o + i * 4, none⟩ = some v0 ∧ w.cell? ⟨b, o + i * 4 + 1, none⟩ = some v1 ∧ w.cell? ⟨b, o + i * 4 + 2, none⟩ = some v2 ∧ w.cell? ⟨b, o + i * 4 + 3, none⟩ = some v3 ∧ Rep w S x (.agg #[v0, v1, v2, v3])) → Reps w S l b o
  | [], o, _ => by rw [Reps]; trivial
  | x :: r, o, h => by
    rw [Reps]
    refine ⟨by simpa using h 0 x rfl, reps_of r (o + 4) fun i y hy => ?_⟩
    have := h (i + 1) y (by simpa using hy)
    rw [show o + (i + 1) * 4 = o + 4 + i * 4 by omega] at this
    exact this

theorem bulk_mem {H : Type} {d : DataW H} {l : List (DataW H)} (h : d ∈ l) : Rows.uptoBulk d ≤ Rows.uptoBulkAll l := by
  induction l with
  | nil => cases h
  | cons x r ih =>
    simp only [Rows.uptoBulkAll]
    rcases List.mem_cons.1 h with rfl | h
    · omega
    · have := ih h; omega

theorem bks_bulk {H : Type} (f : Nat → Tm) (D : Nat → DataW H) : ∀ is : List Nat, (∀ i ∈ is, bk (f i) ≤ Rows.uptoBulk (D i)) → bks (is.map f) ≤ Rows.uptoBulkAll (is.map D)
  | [], _ => by simp [bks]
  | i :: r, h => by
    have h1 := h i (by simp)
    have h2 := bks_bulk f D r (fun j hj => h j (by simp [hj]))
    simp only [List.map_cons, bks, Rows.uptoBulkAll]
    omega


theorem cellsT : Tryd.prog.cellsOf 33 = 4 := by kernel_rfl
theorem cellsL : Tryd.prog.cellsOf 22 = 1 := by kernel_rfl
theorem cellsS : Tryd.prog.cellsOf 9 = 1 := by kernel_rfl
theorem cellsI : Tryd.prog.cellsOf 3 = 1 := by kernel_rfl
theorem cellsK : Tryd.prog.cellsOf 31 = 1 := by kernel_rfl

section
variable {H : Type} {enc : TypeId × Value → H} {w : World} {base : Nat} {spare : Nat → Bool} {held : Bool}

/-- A slice of items that is read, given that each item in it is one. -/
theorem row_of_trod {N : Nat} (ih : ∀ (fuel : Nat) (cs : List Value) (x : DataW H × List MemPlace), Rows.uptoBulk x.1 < N → DataW.trod enc Tryd.prog w base spare held fuel 33 cs = some x →
      ∃ (it : Tm) (v0 v1 v2 v3 : Value), cs = [v0, v1, v2, v3] ∧ Rep w (fun b => b < w.heap.size) it (.agg #[v0, v1, v2, v3]) ∧ bk it ≤ Rows.uptoBulk x.1)
    {fuel : Nat} {v : Value} {x : DataW H × List MemPlace} (hN : Rows.uptoBulk x.1 ≤ N) (h : DataW.trod enc Tryd.prog w base spare held fuel 22 [v] = some x) :
    ∃ (l : List Tm) (A : Option Addr) (cap : Nat), v = .slice A l.length cap ∧ TRow w (fun b => b < w.heap.size) l A ∧ bks l + 1 ≤ Rows.uptoBulk x.1 := by
  rcases open_slice Tryd.underlying22 h with ⟨hcs, rfl⟩ | ⟨a, len, cap, m, n, D, Pl, hcs, hb, hl, hm, hmm, rfl, hi⟩
  · injection hcs with hcs
    exact ⟨[], none, 0, hcs, .inl rfl, by simp [bks, Rows.uptoBulk]⟩
  · injection hcs with hcs
    have hlm : len ≤ m := by rw [hmm]; split <;> omega
    rw [cellsT] at hi
    have hbulk : ∀ i, i < len → Rows.uptoBulk (D i) < N := by
      intro i hil
      have h1 : Rows.uptoBulk (D i) ≤ Rows.uptoBulkAll ((List.range len).map D) := bulk_mem (List.mem_map.2 ⟨i, List.mem_range.2 hil, rfl⟩)
      simp only [Rows.uptoBulk] at hN
      omega
    have hall : ∀ i, i < len → ∃ it : Tm, (∃ v0 v1 v2 v3, w.cell? (a.add (i * 4 + 0)) = some v0 ∧ w.cell? (a.add (i * 4 + 1)) = some v1 ∧ w.cell? (a.add (i * 4 + 2)) = some v2 ∧ w.cell? (a.add (i * 4 + 3)) = some v3 ∧ Rep w (fun b => b < w.heap.size) it (.agg #[v0, v1, v2, v3])) ∧ bk it ≤ Rows.uptoBulk (D i) := by
      intro i hil
      obtain ⟨cs', hc, ht⟩ := hi i (by omega)
      obtain ⟨it, v0, v1, v2, v3, rfl, hrep, hbk⟩ := ih n cs' (D i, Pl i) (hbulk i hil) ht
      obtain ⟨_, _, hat⟩ := World.cells?_some hc
      refine ⟨it, ⟨v0, v1, v2, v3, ?_, ?_, ?_, ?_, hrep⟩, hbk⟩
      · rw [← Go.Deep.add_add, hat 0 (by omega)]; rfl
      · rw [← Go.Deep.add_add, hat 1 (by omega)]; rfl
      · rw [← Go.Deep.add_add, hat 2 (by omega)]; rfl
      · rw [← Go.Deep.add_add, hat 3 (by omega)]; rfl
    obtain ⟨f, hf⟩ := choose_lt hall
    refine ⟨(List.range len).map f, some a, cap, by simpa using hcs, ?_, ?_⟩
    · rcases Nat.eq_zero_or_pos len with h0 | hpos
      · subst h0
        exact .inl rfl
      · obtain ⟨⟨v0, _, _, _, hc0, _⟩, _⟩ := hf 0 hpos
        obtain ⟨b, o, sp⟩ := a
        have hsp : sp = none := by
          have := World.cell?_spot hc0
          simpa [Addr.add] using this
        subst hsp
        have hblt : b < w.heap.size := by
          have := World.block_lt_of_cell? _ _ hc0
          simpa [Addr.add_lit] using this
        refine .inr ⟨b, o, rfl, hblt, reps_of _ _ fun i x hx => ?_⟩
        have hil : i < len := by
          have := (List.getElem?_eq_some_iff.1 hx).1
          simpa using this
        obtain ⟨⟨v0, v1, v2, v3, h0, h1, h2, h3, h4⟩, _⟩ := hf i hil
        have hxe : x = f i := by
          rw [List.getElem?_map, List.getElem?_range hil] at hx
          simpa using hx.symm
        subst hxe
        refine ⟨v0, v1, v2, v3, ?_, ?_, ?_, ?_, h4⟩
        · simpa [Addr.add_lit] using h0
        · simpa [Addr.add_lit, Nat.add_assoc] using h1
        · simpa [Addr.add_lit, Nat.add_assoc] using h2
        · simpa [Addr.add_lit, Nat.add_assoc] using h3
    · have := bks_bulk f D (List.range len) (fun i hi => (hf i (List.mem_range.1 hi)).2)
      simp only [Rows.uptoBulk]
      omega

theorem term_of_trod : ∀ (N fuel : Nat) (cs : List Value) (x : DataW H × List MemPlace), Rows.uptoBulk x.1 < N → DataW.trod enc Tryd.prog w base spare held fuel 33 cs = some x →
    ∃ (it : Tm) (v0 v1 v2 v3 : Value), cs = [v0, v1, v2, v3] ∧ Rep w (fun b => b < w.heap.size) it (.agg #[v0, v1, v2, v3]) ∧ bk it ≤ Rows.uptoBulk x.1
  | 0, _, _, _, h, _ => by omega
  | N + 1, fuel, cs, x, hN, h => by
    obtain ⟨y0, y1, y2, y3, n, rfl, hlen, h0, h1, h2, h3⟩ := trod_struct4 Tryd.underlying33 h
    rw [cellsT] at hlen
    match cs, hlen with
    | [c0, c1, c2, c3], _ =>
      simp only [cellsK, cellsI, cellsS, cellsL, List.drop_zero, List.take_succ_cons, List.take_zero, List.drop_succ_cons] at h0 h1 h2 h3
      obtain ⟨k, e0, rfl, _⟩ := DataW.trod_int Tryd.underlying31 h0
      obtain ⟨s, e1, rfl, _⟩ := DataW.trod_string Tryd.underlying9 h1
      obtain ⟨n, e2, rfl, hn⟩ := DataW.trod_int Tryd.underlying3 h2
      injection e0 with e0
      injection e1 with e1
      injection e2 with e2
      subst e0 e1 e2
      simp only [Rows.uptoBulk, Rows.uptoBulkAll] at hN
      obtain ⟨l, A, cap, rfl, hrow, hbk⟩ := row_of_trod (N := N) (fun fuel cs x hx ht => term_of_trod N fuel cs x hx ht) (by omega) h3
      obtain ⟨⟨s⟩⟩ := s
      have hin : InR n := by simpa [InR, Lit.wf, IntKind.min, IntKind.max, IntKind.signed, IntKind.bits] using hn
      refine ⟨.mk k s n l, _, _, _, _, rfl, rep_mk.2 ⟨A, cap, rfl, hin, hrow⟩, ?_⟩
      simp only [Rows.uptoBulk, Rows.uptoBulkAll, bk]
      omega
end

theorem ownT : ownKnob Tryd.prog.godebug = none := by kernel_rfl
theorem laidT : laidOutB Tryd.prog = true := by kernel_rfl

theorem term_arg {H : Type} {enc : TypeId × Value → H} {w : World} {base : Nat} {spare : Nat → Bool} {held : Bool} {r : Reach} {b0 : Nat} {v : Value} {d : DataW H} {p : List MemPlace}
    (hv : Value.okWide Tryd.prog w r b0 33 v) (h : DataW.Trod enc Tryd.prog w base spare held 33 v d p) :
    ∃ x : Tm, Rep w (Lo w) x v ∧ bk x ≤ Rows.uptoBulk d := by
  obtain ⟨v0, v1, v2, v3, _, _, _, _, _, rfl, _, _, _⟩ := open_agg4 Tryd.underlying33 (by kernel_rfl) cellsT hv h
  obtain ⟨fuel, hf⟩ := h
  obtain ⟨it, u0, u1, u2, u3, hcs, hrep, hbk⟩ := term_of_trod _ fuel _ _ (Nat.lt_succ_self _) hf
  simp [Value.cells] at hcs
  obtain ⟨rfl, rfl, rfl, rfl⟩ := hcs
  exact ⟨it, hrep, hbk⟩

theorem row_arg {H : Type} {enc : TypeId × Value → H} {w : World} {base : Nat} {spare : Nat → Bool} {held : Bool} {r : Reach} {b0 : Nat} {v : Value} {d : DataW H} {p : List MemPlace}
    (hv : Value.okWide Tryd.prog w r b0 22 v) (h : DataW.Trod enc Tryd.prog w base spare held 22 v d p) :
    ∃ (l : List Tm) (A : Option Addr) (ca : Nat), v = .slice A l.length ca ∧ TRow w (Lo w) l A ∧ bks l + 1 ≤ Rows.uptoBulk d := by
  obtain ⟨a0, len, cap, rfl⟩ := okWide_slice Tryd.underlying22 hv
  obtain ⟨fuel, hf⟩ := h
  exact row_of_trod (N := Rows.uptoBulk d) (fun fuel cs x hx ht => term_of_trod _ fuel cs x hx ht) (Nat.le_refl _) (by simpa [Value.cells] using hf)

theorem strs_arg {H : Type} {enc : TypeId × Value → H} {w : World} {base : Nat} {spare : Nat → Bool} {held : Bool} {r : Reach} {b0 : Nat} {v : Value} {d : DataW H} {p : List MemPlace}
    (hv : Value.okWide Tryd.prog w r b0 49 v) (h : DataW.Trod enc Tryd.prog w base spare held 49 v d p) :
    ∃ (l : List (List UInt8)) (A : Option Addr) (ca : Nat), v = .slice A l.length ca ∧ SRow w l A ∧ (∀ s ∈ l, s.length ≤ Rows.uptoBulk d) ∧ l.length ≤ Rows.uptoBulk d := by
  obtain ⟨a0, len0, cap0, rfl⟩ := okWide_slice Tryd.underlying49 hv
  obtain ⟨fuel, hf⟩ := h
  rcases open_slice1 Tryd.underlying49 cellsS (by simpa [Value.cells] using hf) with ⟨hcs, he⟩ | ⟨a, len, cap, m, n, V, D, Pl, hcs, hb, hl, hm, hmm, he, hi⟩
  · injection hcs with hcs
    injection hcs with e1 e2 e3
    subst e1 e2 e3
    exact ⟨[], none, 0, rfl, .inl rfl, by simp, by simp⟩
  · injection hcs with hcs
    injection hcs with e1 e2 e3
    subst e1 e2 e3
    have he1 := congrArg Prod.fst he
    simp only at he1
    subst he1
    have hlm : len0 ≤ m := by rw [hmm]; split <;> omega
    have hall : ∀ i, i < len0 → ∃ s : List UInt8, w.cell? (a.add i) = some (.string ⟨⟨s⟩⟩) ∧ Rows.uptoBulk (D i) = s.length + 1 := by
      intro i hil
      obtain ⟨hc, ht⟩ := hi i (by omega)
      obtain ⟨s, e, e2, _⟩ := DataW.trod_string Tryd.underlying9 ht
      injection e with e
      obtain ⟨⟨s⟩⟩ := s
      refine ⟨s, by rw [hc, e], ?_⟩
      have := congrArg Prod.fst e2
      simp only at this
      rw [this]
      simp [Rows.uptoBulk]
    obtain ⟨f, hf⟩ := choose_lt hall
    have hbulk : ∀ i, i < len0 → Rows.uptoBulk (D i) ≤ Rows.uptoBulkAll ((List.range len0).map D) :=
      fun i hil => bulk_mem (List.mem_map.2 ⟨i, List.mem_range.2 hil, rfl⟩)
    have hlen : len0 ≤ Rows.uptoBulkAll ((List.range len0).map D) := by
      have hg : ∀ is : List Nat, (∀ i ∈ is, 1 ≤ Rows.uptoBulk (D i)) → is.length ≤ Rows.uptoBulkAll (is.map D) := by
        intro is
        induction is with
        | nil => intro _; simp
        | cons i r ih =>
          intro h
          have h1 := h i (by simp)
          have h2 := ih (fun j hj => h j (by simp [hj]))
          simp only [List.map_cons, Rows.uptoBulkAll, List.length_cons]
          omega
      have := hg (List.range len0) (fun i hi => by rw [(hf i (List.mem_range.1 hi)).2]; omega)
      simpa using this
    refine ⟨(List.range len0).map f, some a, cap0, by simp, ?_, ?_, ?_⟩
    · rcases Nat.eq_zero_or_pos len0 with h0 | hpos
      · subst h0
        exact .inl rfl
      · have hc0 := (hf 0 hpos).1
        obtain ⟨b, o, sp⟩ := a
        have hsp : sp = none := by
          have := World.cell?_spot hc0
          simpa [Addr.add] using this
        subst hsp
        have hblt : b < w.heap.size := by
          have := World.block_lt_of_cell? _ _ hc0
          simpa [Addr.add_lit] using this
        refine .inr ⟨b, o, rfl, hblt, fun i h => ?_⟩
        have hil : i < len0 := by simpa using h
        have := (hf i hil).1
        rw [List.getElem_map, List.getElem_range]
        simpa [Addr.add_lit] using this
    · intro s hs
      obtain ⟨i, hi, rfl⟩ := List.mem_map.1 hs
      have h1 := (hf i (List.mem_range.1 hi)).2
      have h2 := hbulk i (List.mem_range.1 hi)
      simp only [Rows.uptoBulk]
      omega
    · simp only [Rows.uptoBulk, List.length_map, List.length_range]
      omega
end Go.Proofs.YtiidooponlbnmaaDoor.Te
