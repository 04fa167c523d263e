/- Arguments opened, their sizes by a sharper count: a term counts five. (Laid with NS=1; out of TmOpen by wip/tools/gen/cyopen.py.) -/
import Derived.Test.YtiidooponlbnmaaDoorTmOpen
namespace Go.Proofs.YtiidooponlbnmaaDoor.Cy
open Go.RowKit Go.ChangeShapes Go.WideShapes Go.Deep Go.Joins
open Te Te.Tt

set_option maxRecDepth 100000

mutual
def b5 : Tm → Nat
  | .mk _ s _ l => 5 + s.length + b5s l
def b5s : List Tm → Nat
  | [] => 0
  | x :: r => b5 x + b5s r
end
theorem b5_sz : ∀ x, 5 * sz x ≤ b5 x ∧ bk x ≤ b5 x := Tm.ind (by
  intro k s n l ih
  rw [sz, b5, bk]
  have : 5 * szs l ≤ b5s l ∧ bks l ≤ b5s l := by
    induction l with
    | nil => simp [szs, b5s, bks]
    | cons x r ihr =>
      have h1 := ih x (by simp)
      have h2 := ihr (fun y hy => ih y (by simp [hy]))
      rw [szs, b5s, bks]
      omega
  omega)
theorem b5s_mem : ∀ (l : List Tm) (x : Tm), x ∈ l → b5 x ≤ b5s l
  | y :: r, x, h => by
    rw [b5s]
    rcases List.mem_cons.1 h with rfl | h
    · omega
    · have := b5s_mem r x h; omega
theorem b5s_len : ∀ (l : List Tm), 5 * l.length ≤ b5s l
  | [] => by rw [b5s]; simp
  | x :: r => by
    have h1 := b5s_len r
    have h2 := (b5_sz x).1
    have h3 := sz_pos x
    rw [b5s, List.length_cons]
    omega
theorem b5s_bulk {H : Type} (f : Nat → Tm) (D : Nat → DataW H) : ∀ is : List Nat, (∀ i ∈ is, b5 (f i) ≤ Rows.uptoBulk (D i)) → b5s (is.map f) ≤ Rows.uptoBulkAll (is.map D)
  | [], _ => by simp [b5s]
  | i :: r, h => by
    have h1 := h i (by simp)
    have h2 := b5s_bulk f D r (fun j hj => h j (by simp [hj]))
    simp only [List.map_cons, b5s, Rows.uptoBulkAll]
    omega


section
variable {H : Type} {enc : TypeId × Value → H} {w : World} {base : Nat} {spare : Nat → Bool} {held : Bool}

/-- A slice of items that is read, given that each item in it is one. -/
theorem row_of_trod5 {N : Nat} (ih : ∀ (fuel : Nat) (cs : List Value) (x : DataW H × List MemPlace), Rows.uptoBulk x.1 < N → DataW.trod enc Tryd.prog w base spare held fuel 33 cs = some x →
      ∃ (it : Tm) (v0 v1 v2 v3 : Value), cs = [v0, v1, v2, v3] ∧ Rep w (fun b => b < w.heap.size) it (.agg #[v0, v1, v2, v3]) ∧ b5 it ≤ Rows.uptoBulk x.1)
    {fuel : Nat} {v : Value} {x : DataW H × List MemPlace} (hN : Rows.uptoBulk x.1 ≤ N) (h : DataW.trod enc Tryd.prog w base spare held fuel 22 [v] = some x) :
    ∃ (l : List Tm) (A : Option Addr) (cap : Nat), v = .slice A l.length cap ∧ TRow w (fun b => b < w.heap.size) l A ∧ b5s l + 1 ≤ Rows.uptoBulk x.1 := by
  rcases open_slice Tryd.underlying22 h with ⟨hcs, rfl⟩ | ⟨a, len, cap, m, n, D, Pl, hcs, hb, hl, hm, hmm, rfl, hi⟩
  · injection hcs with hcs
    exact ⟨[], none, 0, hcs, .inl rfl, by simp [b5s, Rows.uptoBulk]⟩
  · injection hcs with hcs
    have hlm : len ≤ m := by rw [hmm]; split <;> omega
    rw [cellsT] at hi
    have hbulk : ∀ i, i < len → Rows.uptoBulk (D i) < N := by
      intro i hil
      have h1 : Rows.uptoBulk (D i) ≤ Rows.uptoBulkAll ((List.range len).map D) := bulk_mem (List.mem_map.2 ⟨i, List.mem_range.2 hil, rfl⟩)
      simp only [Rows.uptoBulk] at hN
      omega
    have hall : ∀ i, i < len → ∃ it : Tm, (∃ v0 v1 v2 v3, w.cell? (a.add (i * 4 + 0)) = some v0 ∧ w.cell? (a.add (i * 4 + 1)) = some v1 ∧ w.cell? (a.add (i * 4 + 2)) = some v2 ∧ w.cell? (a.add (i * 4 + 3)) = some v3 ∧ Rep w (fun b => b < w.heap.size) it (.agg #[v0, v1, v2, v3])) ∧ b5 it ≤ Rows.uptoBulk (D i) := by
      intro i hil
      obtain ⟨cs', hc, ht⟩ := hi i (by omega)
      obtain ⟨it, v0, v1, v2, v3, rfl, hrep, hbk⟩ := ih n cs' (D i, Pl i) (hbulk i hil) ht
      obtain ⟨_, _, hat⟩ := World.cells?_some hc
      refine ⟨it, ⟨v0, v1, v2, v3, ?_, ?_, ?_, ?_, hrep⟩, hbk⟩
      · rw [← Go.Deep.add_add, hat 0 (by omega)]; rfl
      · rw [← Go.Deep.add_add, hat 1 (by omega)]; rfl
      · rw [← Go.Deep.add_add, hat 2 (by omega)]; rfl
      · rw [← Go.Deep.add_add, hat 3 (by omega)]; rfl
    obtain ⟨f, hf⟩ := choose_lt hall
    refine ⟨(List.range len).map f, some a, cap, by simpa using hcs, ?_, ?_⟩
    · rcases Nat.eq_zero_or_pos len with h0 | hpos
      · subst h0
        exact .inl rfl
      · obtain ⟨⟨v0, _, _, _, hc0, _⟩, _⟩ := hf 0 hpos
        obtain ⟨b, o, sp⟩ := a
        have hsp : sp = none := by
          have := World.cell?_spot hc0
          simpa [Addr.add] using this
        subst hsp
        have hblt : b < w.heap.size := by
          have := World.block_lt_of_cell? _ _ hc0
          simpa [Addr.add_lit] using this
        refine .inr ⟨b, o, rfl, hblt, reps_of _ _ fun i x hx => ?_⟩
        have hil : i < len := by
          have := (List.getElem?_eq_some_iff.1 hx).1
          simpa using this
        obtain ⟨⟨v0, v1, v2, v3, h0, h1, h2, h3, h4⟩, _⟩ := hf i hil
        have hxe : x = f i := by
          rw [List.getElem?_map, List.getElem?_range hil] at hx
          simpa using hx.symm
        subst hxe
        refine ⟨v0, v1, v2, v3, ?_, ?_, ?_, ?_, h4⟩
        · simpa [Addr.add_lit] using h0
        · simpa [Addr.add_lit, Nat.add_assoc] using h1
        · simpa [Addr.add_lit, Nat.add_assoc] using h2
        · simpa [Addr.add_lit, Nat.add_assoc] using h3
    · have := b5s_bulk f D (List.range len) (fun i hi => (hf i (List.mem_range.1 hi)).2)
      simp only [Rows.uptoBulk]
      omega

theorem term_of_trod5 : ∀ (N fuel : Nat) (cs : List Value) (x : DataW H × List MemPlace), Rows.uptoBulk x.1 < N → DataW.trod enc Tryd.prog w base spare held fuel 33 cs = some x →
    ∃ (it : Tm) (v0 v1 v2 v3 : Value), cs = [v0, v1, v2, v3] ∧ Rep w (fun b => b < w.heap.size) it (.agg #[v0, v1, v2, v3]) ∧ b5 it ≤ Rows.uptoBulk x.1
  | 0, _, _, _, h, _ => by omega
  | N + 1, fuel, cs, x, hN, h => by
    obtain ⟨y0, y1, y2, y3, n, rfl, hlen, h0, h1, h2, h3⟩ := trod_struct4 Tryd.underlying33 h
    rw [cellsT] at hlen
    match cs, hlen with
    | [c0, c1, c2, c3], _ =>
      simp only [cellsK, cellsI, cellsS, cellsL, List.drop_zero, List.take_succ_cons, List.take_zero, List.drop_succ_cons] at h0 h1 h2 h3
      obtain ⟨k, e0, rfl, _⟩ := DataW.trod_int Tryd.underlying31 h0
      obtain ⟨s, e1, rfl, _⟩ := DataW.trod_string Tryd.underlying9 h1
      obtain ⟨n, e2, rfl, hn⟩ := DataW.trod_int Tryd.underlying3 h2
      injection e0 with e0
      injection e1 with e1
      injection e2 with e2
      subst e0 e1 e2
      simp only [Rows.uptoBulk, Rows.uptoBulkAll] at hN
      obtain ⟨l, A, cap, rfl, hrow, hbk⟩ := row_of_trod5 (N := N) (fun fuel cs x hx ht => term_of_trod5 N fuel cs x hx ht) (by omega) h3
      obtain ⟨⟨s⟩⟩ := s
      have hin : InR n := by simpa [InR, Lit.wf, IntKind.min, IntKind.max, IntKind.signed, IntKind.bits] using hn
      refine ⟨.mk k s n l, _, _, _, _, rfl, rep_mk.2 ⟨A, cap, rfl, hin, hrow⟩, ?_⟩
      simp only [Rows.uptoBulk, Rows.uptoBulkAll, b5]
      omega
end

theorem term_arg5 {H : Type} {enc : TypeId × Value → H} {w : World} {base : Nat} {spare : Nat → Bool} {held : Bool} {r : Reach} {b0 : Nat} {v : Value} {d : DataW H} {p : List MemPlace}
    (hv : Value.okWide Tryd.prog w r b0 33 v) (h : DataW.Trod enc Tryd.prog w base spare held 33 v d p) :
    ∃ x : Tm, Rep w (Lo w) x v ∧ b5 x ≤ Rows.uptoBulk d := by
  obtain ⟨v0, v1, v2, v3, _, _, _, _, _, rfl, _, _, _⟩ := open_agg4 Tryd.underlying33 (by kernel_rfl) cellsT hv h
  obtain ⟨fuel, hf⟩ := h
  obtain ⟨it, u0, u1, u2, u3, hcs, hrep, hbk⟩ := term_of_trod5 _ fuel _ _ (Nat.lt_succ_self _) hf
  simp [Value.cells] at hcs
  obtain ⟨rfl, rfl, rfl, rfl⟩ := hcs
  exact ⟨it, hrep, hbk⟩

theorem row_arg5 {H : Type} {enc : TypeId × Value → H} {w : World} {base : Nat} {spare : Nat → Bool} {held : Bool} {r : Reach} {b0 : Nat} {v : Value} {d : DataW H} {p : List MemPlace}
    (hv : Value.okWide Tryd.prog w r b0 22 v) (h : DataW.Trod enc Tryd.prog w base spare held 22 v d p) :
    ∃ (l : List Tm) (A : Option Addr) (ca : Nat), v = .slice A l.length ca ∧ TRow w (Lo w) l A ∧ b5s l + 1 ≤ Rows.uptoBulk d := by
  obtain ⟨a0, len, cap, rfl⟩ := okWide_slice Tryd.underlying22 hv
  obtain ⟨fuel, hf⟩ := h
  exact row_of_trod5 (N := Rows.uptoBulk d) (fun fuel cs x hx ht => term_of_trod5 _ fuel cs x hx ht) (Nat.le_refl _) (by simpa [Value.cells] using hf)

end Go.Proofs.YtiidooponlbnmaaDoor.Cy
