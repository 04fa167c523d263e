/- The document's Names. -/
import Derived.Test.YtfhcfaflggiacaaDoorTmV3
import Derived.Test.YtfhcfaflggiacaaDoorTmV8
namespace Go.Proofs.YtfhcfaflggiacaaDoor
open Go.RowKit
open Tt

theorem info9 : (Tryd.prog.info? 9).map (fun i => (i.zero, i.size, i.bytes)) = some (some (.string ⟨#[]⟩), 1, 16) := by kernel_rfl
def svals (l : List (List UInt8)) : List Value := l.map fun s => .string ⟨⟨s⟩⟩
/-- A row of texts of one's own. -/
def OwnStr (w : World) (base : Nat) (v : Value) (l : List (List UInt8)) : Prop := w.ownsRow base 9 1 v l.length (svals l)
theorem OwnStr.nil (w : World) (base : Nat) : OwnStr w base (.slice none 0 0) [] := World.ownsRow_nil w base _ _
theorem OwnStr.below {w w' : World} {base : Nat} {v : Value} {l : List (List UInt8)} (h : OwnStr w base v l) (hb : Below w.heap.size w w') : OwnStr w' base v l := by
  refine World.ownsRow.kept h (row := none) ⟨hb.os, hb.tape, hb.output, hb.size, fun k hk _ => hb.block k hk⟩ ?_
  cases v.ownBlock with
  | none => exact .inl rfl
  | some k => exact .inr (by simp)
theorem OwnStr.form {w : World} {base : Nat} {v : Value} {l : List (List UInt8)} (h : OwnStr w base v l) : ∃ A c, v = .slice A l.length c ∧ ∀ i (hi : i < l.length), ∃ g, A = some ⟨g, 0, none⟩ ∧ w.cell? ⟨g, i, none⟩ = some (.string ⟨⟨l[i]⟩⟩) := by
  rcases h.2 with ⟨rfl, h0⟩ | ⟨g, cap, cur, hv, -⟩
  · exact ⟨none, 0, by rw [h0], fun i hi => by omega⟩
  · refine ⟨some ⟨g, 0, none⟩, cap, hv, fun i hi => ⟨g, rfl, ?_⟩⟩
    have := World.ownsRow.cells h (g := g) (by rw [hv]; rfl) i (.string ⟨⟨l[i]⟩⟩) (by simp [svals, List.getElem?_eq_getElem hi])
    rw [Addr.add_lit, Nat.zero_add] at this
    exact this

set_option maxHeartbeats 400000 in
set_option maxRecDepth 100000 in
theorem wpList_appStr (wr : World) {ops : Array Oper} {rest : List Oper} {o : Oper} {a : Act} {Q : Exit → Act → World → Prop} (hgd : o.guard = none) (s x : Operand)
    (ho : o.op = .call { callee := .builtin .append, args := #[s, x], argTypes := #[30, 30] }) (base : Nat) (v : Value) (l : List (List UInt8)) (c : List UInt8) (hs : a.eval s = v) (hx : a.eval x = .slice (some ⟨wr.heap.size, 0, none⟩) 1 1)
    (hown : OwnStr wr base v l) (hl : l.length ≤ 1000000) (hbase : base ≤ wr.heap.size)
    (h : ∀ v' w', OwnStr w' base v' (l ++ [c]) → Below base wr w' → wpList Tryd.prog ops Q rest (a.put o.dst v') w') :
    wpList Tryd.prog ops Q (o :: rest) a (wr.alloc (.cells #[.string ⟨⟨c⟩⟩] 9)) := by
  obtain ⟨i, hi, he⟩ := Option.map_eq_some_iff.1 info9
  simp only [Prod.mk.injEq] at he
  obtain ⟨hz, hsz, hb⟩ := he
  have hg := heap_alloc_new wr (.cells #[.string ⟨⟨c⟩⟩] 9)
  have hown' : (wr.alloc (.cells #[.string ⟨⟨c⟩⟩] 9)).ownsRow base 9 1 v l.length (svals l) := World.ownsRow.alloc hown _
  have hlt := World.ownsRow.lt hown
  refine wpList_append_own _ hgd s x 30 ho base 9 i (.string ⟨#[]⟩) 1 16 Tryd.underlying30 hi hz hsz hb rfl (by decide) v l.length (svals l) hs hown' ⟨wr.heap.size, 0, none⟩ 1 1 [.string ⟨⟨c⟩⟩] hx rfl (fun j u hu => ?_) (fun u hu => ?_) (by simp only [maxLen]; omega) (by omega) (by simp; omega) fun v' w' h1 h2 _ => h v' w' ?_ ?_
  · rw [Addr.add_lit]
    exact (cell_of_row _ _ _ _ _ _ hg).trans (by simpa using hu)
  · simp only [List.mem_singleton] at hu
    subst hu
    rfl
  · unfold OwnStr
    rw [List.length_append, List.length_singleton]
    have : svals (l ++ [c]) = svals l ++ [.string ⟨⟨c⟩⟩] := by simp [svals]
    rw [this]
    exact h1
  · exact Below.grown ((Below.refl _ _).alloc hbase _) h2 (by simp; omega) (fun k hk => (hlt k hk).1)

/-- What Names answers. -/
def NamesPost (k : Int) (l : List Tm) (w : World) (e : Ending) (w' : World) : Prop := ∃ u b, e = .returned (.tuple #[u, .bool b]) ∧ Below w.heap.size w w' ∧
      ((b = true ∧ (k = 3 ∧ l.all (fun p => decide (p.k = 0)) = true) ∧ OwnStr w' w.heap.size u (l.map Tm.s)) ∨ (b = false ∧ u = .slice none 0 0 ∧ ¬ (k = 3 ∧ l.all (fun p => decide (p.k = 0)) = true)))

set_option maxHeartbeats 2000000 in
set_option maxRecDepth 100000 in
theorem refNames_any (k : Int) (s : List UInt8) (n : Int) (l : List Tm) (A : Option Addr) (ca : Nat) (S : Nat → Prop) (w : World) (hr : TRow w S l A) (hS : ∀ b, S b → b < w.heap.size) (hl6 : l.length ≤ 900000) :
    Calls Tryd.prog 16 #[.agg #[.int .i64 k, .string ⟨⟨s⟩⟩, .int .i64 n, .slice A l.length ca]] w fun e w' => NamesPost k l w e w' := by
  obtain ⟨m, hm⟩ : ∃ m, m = l.length := ⟨_, rfl⟩
  obtain ⟨z, hz⟩ : ∃ z, z = w.heap.size := ⟨_, rfl⟩
  obtain ⟨W2, hW2⟩ : ∃ W2, W2 = (w.alloc (.cells #[.int .i64 k, .string ⟨⟨s⟩⟩, .int .i64 n, .slice A m ca] 25)) := ⟨_, rfl⟩
  rw [← hm]
  have hB2 : Below w.heap.size w W2 := by rw [hW2]; exact (Below.refl _ _).alloc (Nat.le_refl _) _
  have hs2 : W2.heap.size = z + 1 := by rw [hW2, hz]; simp
  have hg0 : W2.heap[z]? = some (.cells #[.int .i64 k, .string ⟨⟨s⟩⟩, .int .i64 n, .slice A m ca] 25 (0, 0)) := by
    rw [hW2, hz]; exact heap_alloc_new w _
  obtain ⟨c0, c1, c2, c3⟩ := cell4 hg0
  have HB2 := Lib.hid hB2
  have HG2 := Lib.hid hg0
  have HR := Lib.hid hr
  have HS := Lib.hid hS
  have HM := Lib.hid hm
  have HW2 := Lib.hid hW2
  have HZ := Lib.hid hz
  have HZS : Hid (z + 1 ≤ W2.heap.size) := by rw [Hid, hs2]; exact Nat.le_refl _
  have HO2 : Hid (OwnStr W2 (z + 1) (.slice none 0 0) ((l.take 0).map Tm.s)) := OwnStr.nil W2 (z + 1)
  have hm6 : m ≤ 900000 := by omega
  rw [hW2, HZ.out] at c0 c1 c2 c3
  clear hr hS hm hz hW2 hB2 hs2 hg0
  go_enter Tryd.func16, Tryd.ntmps16
  by_cases hk : k = 3
  case neg =>
    have hkb : (k == 3) = false := by simp [hk]
    go_wp2
    go_ret2
    refine ⟨_, _, rfl, by rw [← HW2.out]; exact HB2.out, .inr ⟨rfl, rfl, fun h => hk h.1⟩⟩
  subst hk
  go_wp2
  rw [← HW2.out, ← HZ.out]
  go_loopw [4, 5] (fun lv iv wr => ∃ i : Nat, i ≤ m ∧ iv = .int .i64 (i : Nat) ∧ Hid (OwnStr wr (z + 1) lv ((l.take i).map Tm.s)) ∧ Hid ((l.take i).all (fun p => decide (p.k = 0)) = true) ∧ Hid (wr.heap[z]? = some (.cells #[.int .i64 3, .string ⟨⟨s⟩⟩, .int .i64 n, .slice A m ca] 25 (0, 0))) ∧ Hid (Below w.heap.size w wr) ∧ Hid (z + 1 ≤ wr.heap.size)) (fun _ iv _ => m - (intOf iv).toNat)
  case atStart => exact ⟨0, by omega, rfl, HO2, Lib.hid (by simp), HG2, HB2, HZS⟩
  case round =>
    obtain ⟨i, hi, rfl, HO, HA, HG, HB, HZ1⟩ := hrel
    clear c0 c1 c2 c3
    obtain ⟨c0, c1, c2, c3⟩ := cell4 HG.out
    by_cases hlt : i < m
    · have hlt1 : i < l.length := by rw [← HM.out]; exact hlt
      have hil : (i : Int) < (m : Int) := by omega
      obtain ⟨b, o, k1, s1, n1, q1, B1, cb1, rfl, hSb, hx, d0, d1, d2, d3, hrep⟩ := trow_get HR.out HB.out HS.out hlt1
      have hmem : l[i] ∈ l := List.getElem_mem hlt1
      have hta : (l.take (i + 1)).all (fun p => decide (p.k = 0)) = decide (k1 = 0) := by
        rw [List.take_succ_eq_append_getElem hlt1, List.all_append, HA.out, hx]; by_cases h0 : k1 = 0 <;> simp [Tm.k, h0]
      have htm : (l.take (i + 1)).map Tm.s = (l.take i).map Tm.s ++ [s1] := by
        rw [List.take_succ_eq_append_getElem hlt1, List.map_append, hx]; simp [Tm.s]
      by_cases hk1 : k1 = 0
      · subst hk1
        have HTA : Hid ((l.take (i + 1)).all (fun p => decide (p.k = 0)) = true) := hta.trans rfl
        have HTM := Lib.hid htm
        have HLL : Hid (((l.take i).map Tm.s).length ≤ 1000000) := by rw [Hid, List.length_map, List.length_take]; omega
        clear hta htm hx hrep hmem
        go_wp2_with (at_builtin; refine wpList_appStr wr rfl (.tmp 23) (.tmp 30) rfl (z + 1) _ _ s1 rfl rfl HO.out HLL.out HZ1.out ?_; intro v' w2 ho2 hb2; have HO2' : Hid (OwnStr w2 (z + 1) v' ((l.take (i + 1)).map Tm.s)) := (by rw [Hid, HTM.out]; exact ho2); have HB2' : Hid (Below w.heap.size w w2) := HB.out.trans (hb2.mono (by have := HZ.out; omega)); have hg2 := (hb2.block z (by omega)).trans HG.out; have HG2' := Lib.hid hg2; have HZ2 : Hid (z + 1 ≤ w2.heap.size) := (by have := hb2.size; have := HZ1.out; rw [Hid]; omega); clear ho2 hb2 hg2)
        go_roundw
        case rel => exact ⟨i + 1, by omega, by go_num, HO2', HTA, HG2', HB2', HZ2⟩
        case measure => simp [intOf]; omega
      · have hkb : (k1 == 0) = false := by simp [hk1]
        have HNO : Hid (¬ l.all (fun p => decide (p.k = 0)) = true) := by
          rw [Hid, Bool.not_eq_true, List.all_eq_false]
          exact ⟨_, hmem, by rw [hx]; simp [Tm.k, hk1]⟩
        clear hta htm hx hrep hmem
        go_wp2
        go_ret2
        exact ⟨_, _, rfl, HB.out, .inr ⟨rfl, rfl, fun h => HNO.out h.2⟩⟩
    · have hil : ¬ (i : Int) < (m : Int) := by omega
      have hie : l.take i = l := List.take_of_length_le (by rw [← HM.out]; omega)
      have ho := HO.out
      have ha := HA.out
      rw [hie] at ho ha
      have HOE := Lib.hid ho
      have HAE := Lib.hid ha
      clear ho ha hie HO HA
      go_wp2
      go_ret2
      refine ⟨_, _, rfl, HB.out, .inl ⟨rfl, ⟨rfl, HAE.out⟩, ?_⟩⟩
      rcases HOE.out.2 with h1 | ⟨g, cap, cur, h2, h3, h4⟩
      · exact ⟨HOE.out.1, .inl h1⟩
      · exact ⟨HOE.out.1, .inr ⟨g, cap, cur, h2, by have := HZ.out; omega, h4⟩⟩
end Go.Proofs.YtfhcfaflggiacaaDoor
