import Derived.Test.YtmjpjbnaahdcmaaW6
import Derived.Lib.SmallJoins
import Derived.Deep.Slices
import Derived.ProofKit
namespace Go.Proofs.Ytmjpjbnaahdcmaa
open Go.RowKit Go.ChangeShapes Go.WideShapes Go.Deep Go.Joins
open Wr

theorem reps_of {w : World} {S : Nat → Prop} {b : Nat} : ∀ (l : List It) (o : Nat), (∀ i x, l[i]? = some x → ∃ v0 v1 v2 v3, w.cell? ⟨b, o + i * 4, none⟩ = some v0 ∧ w.cell? ⟨b, o + i * 4 + 1, none⟩ = some v1 ∧ w.cell? ⟨b, o + i * 4 + 2, none⟩ = some v2 ∧ w.cell? ⟨b, o + i * 4 + 3, none⟩ = some v3 ∧ Rep w S x (.agg #[v0, v1, v2, v3])) → Reps w S l b o
  | [], o, _ => by rw [Reps]; trivial
  | x :: r, o, h => by
    rw [Reps]
    refine ⟨by simpa using h 0 x rfl, reps_of r (o + 4) fun i y hy => ?_⟩
    have := h (i + 1) y (by simpa using hy)
    rw [show o + (i + 1) * 4 = o + 4 + i * 4 by omega] at this
    exact this

theorem bulk_mem {H : Type} {d : DataW H} {l : List (DataW H)} (h : d ∈ l) : Rows.uptoBulk d ≤ Rows.uptoBulkAll l := by
  induction l with
  | nil => cases h
  | cons x r ih =>
    simp only [Rows.uptoBulkAll]
    rcases List.mem_cons.1 h with rfl | h
    · omega
    · have := ih h; omega

theorem bks_bulk {H : Type} (f : Nat → It) (D : Nat → DataW H) : ∀ is : List Nat, (∀ i ∈ is, bk (f i) ≤ Rows.uptoBulk (D i)) → bks (is.map f) ≤ Rows.uptoBulkAll (is.map D)
  | [], _ => by simp [bks]
  | i :: r, h => by
    have h1 := h i (by simp)
    have h2 := bks_bulk f D r (fun j hj => h j (by simp [hj]))
    simp only [List.map_cons, bks, Rows.uptoBulkAll]
    omega

instance : Inhabited It := ⟨.mk false 0 [] []⟩

theorem cells24 : Try.prog.cellsOf 24 = 4 := by kernel_rfl
theorem cells22 : Try.prog.cellsOf 22 = 1 := by kernel_rfl
theorem cells9 : Try.prog.cellsOf 9 = 1 := by kernel_rfl
theorem cells3 : Try.prog.cellsOf 3 = 1 := by kernel_rfl
theorem cells4 : Try.prog.cellsOf 4 = 1 := by kernel_rfl

section
variable {H : Type} {enc : TypeId × Value → H} {w : World} {base : Nat} {spare : Nat → Bool} {held : Bool}

/-- A slice of items that is read, given that each item in it is one. -/
theorem row_of_trod {N : Nat} (ih : ∀ (fuel : Nat) (cs : List Value) (x : DataW H × List MemPlace), Rows.uptoBulk x.1 < N → DataW.trod enc Try.prog w base spare held fuel 24 cs = some x →
      ∃ (it : It) (v0 v1 v2 v3 : Value), cs = [v0, v1, v2, v3] ∧ Rep w (fun b => b < w.heap.size) it (.agg #[v0, v1, v2, v3]) ∧ bk it ≤ Rows.uptoBulk x.1)
    {fuel : Nat} {v : Value} {x : DataW H × List MemPlace} (hN : Rows.uptoBulk x.1 ≤ N) (h : DataW.trod enc Try.prog w base spare held fuel 22 [v] = some x) :
    ∃ (l : List It) (A : Option Addr) (cap : Nat), v = .slice A l.length cap ∧ Row w (fun b => b < w.heap.size) l A ∧ bks l + 1 ≤ Rows.uptoBulk x.1 := by
  rcases open_slice Try.underlying22 h with ⟨hcs, rfl⟩ | ⟨a, len, cap, m, n, D, Pl, hcs, hb, hl, hm, hmm, rfl, hi⟩
  · injection hcs with hcs
    exact ⟨[], none, 0, hcs, .inl rfl, by simp [bks, Rows.uptoBulk]⟩
  · injection hcs with hcs
    have hlm : len ≤ m := by rw [hmm]; split <;> omega
    rw [cells24] at hi
    have hbulk : ∀ i, i < len → Rows.uptoBulk (D i) < N := by
      intro i hil
      have h1 : Rows.uptoBulk (D i) ≤ Rows.uptoBulkAll ((List.range len).map D) := bulk_mem (List.mem_map.2 ⟨i, List.mem_range.2 hil, rfl⟩)
      simp only [Rows.uptoBulk] at hN
      omega
    have hall : ∀ i, i < len → ∃ it : It, (∃ v0 v1 v2 v3, w.cell? (a.add (i * 4 + 0)) = some v0 ∧ w.cell? (a.add (i * 4 + 1)) = some v1 ∧ w.cell? (a.add (i * 4 + 2)) = some v2 ∧ w.cell? (a.add (i * 4 + 3)) = some v3 ∧ Rep w (fun b => b < w.heap.size) it (.agg #[v0, v1, v2, v3])) ∧ bk it ≤ Rows.uptoBulk (D i) := by
      intro i hil
      obtain ⟨cs', hc, ht⟩ := hi i (by omega)
      obtain ⟨it, v0, v1, v2, v3, rfl, hrep, hbk⟩ := ih n cs' (D i, Pl i) (hbulk i hil) ht
      obtain ⟨_, _, hat⟩ := World.cells?_some hc
      refine ⟨it, ⟨v0, v1, v2, v3, ?_, ?_, ?_, ?_, hrep⟩, hbk⟩
      · rw [← Go.Deep.add_add, hat 0 (by omega)]; rfl
      · rw [← Go.Deep.add_add, hat 1 (by omega)]; rfl
      · rw [← Go.Deep.add_add, hat 2 (by omega)]; rfl
      · rw [← Go.Deep.add_add, hat 3 (by omega)]; rfl
    obtain ⟨f, hf⟩ := choose_lt hall
    refine ⟨(List.range len).map f, some a, cap, by simpa using hcs, ?_, ?_⟩
    · rcases Nat.eq_zero_or_pos len with h0 | hpos
      · subst h0
        exact .inl rfl
      · obtain ⟨⟨v0, _, _, _, hc0, _⟩, _⟩ := hf 0 hpos
        obtain ⟨b, o, sp⟩ := a
        have hsp : sp = none := by
          have := World.cell?_spot hc0
          simpa [Addr.add] using this
        subst hsp
        have hblt : b < w.heap.size := by
          have := World.block_lt_of_cell? _ _ hc0
          simpa [Addr.add_lit] using this
        refine .inr ⟨b, o, rfl, hblt, reps_of _ _ fun i x hx => ?_⟩
        have hil : i < len := by
          have := (List.getElem?_eq_some_iff.1 hx).1
          simpa using this
        obtain ⟨⟨v0, v1, v2, v3, h0, h1, h2, h3, h4⟩, _⟩ := hf i hil
        have hxe : x = f i := by
          rw [List.getElem?_map, List.getElem?_range hil] at hx
          simpa using hx.symm
        subst hxe
        refine ⟨v0, v1, v2, v3, ?_, ?_, ?_, ?_, h4⟩
        · simpa [Addr.add_lit] using h0
        · simpa [Addr.add_lit, Nat.add_assoc] using h1
        · simpa [Addr.add_lit, Nat.add_assoc] using h2
        · simpa [Addr.add_lit, Nat.add_assoc] using h3
    · have := bks_bulk f D (List.range len) (fun i hi => (hf i (List.mem_range.1 hi)).2)
      simp only [Rows.uptoBulk]
      omega

theorem item_of_trod : ∀ (N fuel : Nat) (cs : List Value) (x : DataW H × List MemPlace), Rows.uptoBulk x.1 < N → DataW.trod enc Try.prog w base spare held fuel 24 cs = some x →
    ∃ (it : It) (v0 v1 v2 v3 : Value), cs = [v0, v1, v2, v3] ∧ Rep w (fun b => b < w.heap.size) it (.agg #[v0, v1, v2, v3]) ∧ bk it ≤ Rows.uptoBulk x.1
  | 0, _, _, _, h, _ => by omega
  | N + 1, fuel, cs, x, hN, h => by
    obtain ⟨y0, y1, y2, y3, n, rfl, hlen, h0, h1, h2, h3⟩ := trod_struct4 Try.underlying24 h
    rw [cells24] at hlen
    match cs, hlen with
    | [c0, c1, c2, c3], _ =>
      simp only [cells4, cells3, cells9, cells22, List.drop_zero, List.take_succ_cons, List.take_zero, List.drop_succ_cons] at h0 h1 h2 h3
      obtain ⟨nd, e0, rfl⟩ := DataW.trod_bool Try.underlying4 h0
      obtain ⟨t, e1, rfl, _⟩ := DataW.trod_int Try.underlying3 h1
      obtain ⟨s, e2, rfl, _⟩ := DataW.trod_string Try.underlying9 h2
      injection e0 with e0
      injection e1 with e1
      injection e2 with e2
      subst e0 e1 e2
      simp only [Rows.uptoBulk, Rows.uptoBulkAll] at hN
      obtain ⟨l, A, cap, rfl, hrow, hbk⟩ := row_of_trod (N := N) (fun fuel cs x hx ht => item_of_trod N fuel cs x hx ht) (by omega) h3
      obtain ⟨⟨s⟩⟩ := s
      refine ⟨.mk nd t s l, _, _, _, _, rfl, rep_mk.2 ⟨A, cap, rfl, hrow⟩, ?_⟩
      simp only [Rows.uptoBulk, Rows.uptoBulkAll, bk]
      omega
end

theorem ownT : ownKnob Try.prog.godebug = none := by kernel_rfl
theorem laidT : laidOutB Try.prog = true := by kernel_rfl

theorem item_arg {H : Type} {enc : TypeId × Value → H} {w : World} {base : Nat} {spare : Nat → Bool} {held : Bool} {r : Reach} {b0 : Nat} {v : Value} {d : DataW H} {p : List MemPlace}
    (hv : Value.okWide Try.prog w r b0 24 v) (h : DataW.Trod enc Try.prog w base spare held 24 v d p) :
    ∃ (n : Bool) (t : Int) (s : List UInt8) (l : List It) (A : Option Addr) (ca : Nat), v = .agg #[.bool n, .int .i64 t, .string ⟨⟨s⟩⟩, .slice A l.length ca] ∧
      Rep w (fun b => b < w.heap.size) (.mk n t s l) (.agg #[.bool n, .int .i64 t, .string ⟨⟨s⟩⟩, .slice A l.length ca]) ∧ bk (.mk n t s l) ≤ Rows.uptoBulk d := by
  obtain ⟨v0, v1, v2, v3, _, _, _, _, _, rfl, _, _, _⟩ := open_agg4 Try.underlying24 (by kernel_rfl) cells24 hv h
  obtain ⟨fuel, hf⟩ := h
  obtain ⟨it, u0, u1, u2, u3, hcs, hrep, hbk⟩ := item_of_trod _ fuel _ _ (Nat.lt_succ_self _) hf
  simp [Value.cells] at hcs
  obtain ⟨rfl, rfl, rfl, rfl⟩ := hcs
  obtain ⟨n, t, s, l⟩ := it
  have hrep0 := hrep
  obtain ⟨A, ca, hv', _⟩ := rep_mk.1 hrep
  injection hv' with hv'
  simp at hv'
  obtain ⟨rfl, rfl, rfl, rfl⟩ := hv'
  exact ⟨n, t, s, l, A, ca, rfl, hrep0, hbk⟩
end Go.Proofs.Ytmjpjbnaahdcmaa
