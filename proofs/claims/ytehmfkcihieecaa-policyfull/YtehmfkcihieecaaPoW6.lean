/- put: a name in a list, or not. (Laid with NS=1; written by wip/tools/gen/pot.py.) -/
import Derived.Test.YtehmfkcihieecaaPoW5
import Derived.Maps.AppendAt
namespace Go.Proofs.Ytehmfkcihieecaa.Po
open Go.RowKit Go.Sort
open Te Te.Tt
open Go (Lit DataW MemPlace keyOf maxLen)

theorem info9 : (Try.prog.info? 9).map (fun i => (i.zero, i.size, i.bytes)) = some (some (.string ⟨#[]⟩), 1, 16) := by kernel_rfl
theorem wpList_append_run (w : World) {ops : Array Oper} {rest : List Oper} {o : Oper} {a : Act} {Q : Exit → Act → World → Prop} (hgd : o.guard = none) (s x : Operand) (t u : TypeId) (ho : o.op = .call { callee := .builtin .append, args := #[s, x], argTypes := #[t, u] }) (v y : Value) (hs : a.eval s = v) (hx : a.eval x = y) {v' : Value} {w' : World}
    (hr : (Builtin.append_ #[t, u] o.type #[v, y]).run Try.prog w = .ok v' w') (h : wpList Try.prog ops Q rest (a.put o.dst v') w') : wpList Try.prog ops Q (o :: rest) a w := by
  refine wpList_plain hgd fun K hK => ?_
  unfold Oper.wp
  simp [execOp, ho, resolve, invoke, builtin, hs, hx, hr, Result.andThen]
  exact hK _ _ h
/-- One more name behind a row of one's own. -/
theorem run_appN (wr : World) (v : Value) (l : List Nm) (c : Nm) (hown : OwnS wr v l) (hl : l.length ≤ 1000000) :
    ∃ v' w', (Builtin.append_ #[29, 29] 29 #[v, .slice (some ⟨wr.heap.size, 0, none⟩) 1 1]).run Try.prog (wr.alloc (.cells #[.string ⟨⟨c⟩⟩] 9)) = .ok v' w' ∧ OwnS w' v' (l ++ [c]) ∧ Turn (fun k => v.ownBlock = some k) wr w' ∧ ∀ k, v'.ownBlock = some k → v.ownBlock = some k ∨ wr.heap.size ≤ k := by
  obtain ⟨i, hi, he⟩ := Option.map_eq_some_iff.1 info9
  simp only [Prod.mk.injEq] at he
  obtain ⟨hz, hsz, hb⟩ := he
  have hg := heap_alloc_new wr (.cells #[.string ⟨⟨c⟩⟩] 9)
  have hown' : (wr.alloc (.cells #[.string ⟨⟨c⟩⟩] 9)).ownsRow 0 9 1 v l.length (svals l) := World.ownsRow.alloc hown _
  obtain ⟨v', w', hr, h1, h2, -, h4⟩ := run_append_own_at (P := Try.prog) (wr.alloc (.cells #[.string ⟨⟨c⟩⟩] 9)) 0 29 29 9 i (.string ⟨#[]⟩) 1 16 Try.underlying29 hi hz hsz hb rfl (by decide) v l.length (svals l) hown' ⟨wr.heap.size, 0, none⟩ 1 1 [.string ⟨⟨c⟩⟩] rfl (fun j u hu => by
    rw [Addr.add_lit]
    exact (cell_of_row _ _ _ _ _ _ hg).trans (by simpa using hu)) (fun u hu => by
    simp only [List.mem_singleton] at hu
    subst hu
    rfl) (by simp only [maxLen]; omega) (by omega) (Nat.zero_le _)
  refine ⟨v', w', hr, ?_, Turn.after ((Below.refl _ _).alloc (Nat.le_refl _) _) (Turn.of_grown h2 (fun i h => h)), fun k hk => ?_⟩
  · unfold OwnS
    rw [List.length_append, List.length_singleton]
    have : svals (l ++ [c]) = svals l ++ [.string ⟨⟨c⟩⟩] := by simp [svals]
    rw [this]
    exact h1
  · rcases h4 with h4 | h4
    · exact .inl (h4.symm.trans hk)
    · rw [h4] at hk
      cases hk
      exact .inr (by simp)
theorem setIf_same {cur : Array Value} {j : Nat} {v : Value} (h : cur[j]? = some v) : cur.setIfInBounds j v = cur := by
  apply Array.ext_getElem?
  intro i
  by_cases e : j = i
  · subst e
    rw [Array.getElem?_setIfInBounds_self, h]
    have := (Array.getElem?_eq_some_iff.1 h).1
    simp [this]
  · rw [Array.getElem?_setIfInBounds_ne e]
theorem ix_in {l : List Nm} {b : Nm} (h : b ∈ l) : ix l b = ((l.idxOf b : Nat) : Int) ∧ l.idxOf b < l.length := ⟨by simp [ix, h], List.idxOf_lt_length_iff.2 h⟩
theorem ix_out {l : List Nm} {b : Nm} (h : b ∉ l) : ix l b = -1 := by simp [ix, h]
theorem erase_ix {l : List Nm} {b : Nm} : l.erase b = l.take (l.idxOf b) ++ l.drop (l.idxOf b + 1) := by
  rw [List.erase_eq_eraseIdx_of_idxOf rfl, List.eraseIdx_eq_take_drop_succ]
/-- What put leaves: the cell z, j has what the list now is. -/
def PutMem (W : World) (z j : Nat) (cur : Array Value) (t : TypeId) (v : Value) (r : List Nm × Int) (w' : World) : Prop := ∃ v', w'.heap[z]? = some (.cells (cur.setIfInBounds j v') t (0, 0)) ∧ OwnS w' v' r.1 ∧ Turn (fun k => k = z ∨ v.ownBlock = some k) W w' ∧
  (∀ k, v'.ownBlock = some k → v.ownBlock = some k ∨ W.heap.size ≤ k) ∧ (r.2 ≠ 0 → v' = v ∧ ∀ k : Nat, w'.heap[k]? = W.heap[k]?)
def PutPost (W : World) (z j : Nat) (cur : Array Value) (t : TypeId) (v : Value) (r : List Nm × Int) (e : Ending) (w' : World) : Prop := e = .returned (.int .i64 r.2) ∧ PutMem W z j cur t v r w'
theorem PutPost.redrawn {W : World} {d z j : Nat} {cur : Array Value} {t : TypeId} {v : Value} {r : List Nm × Int} {e : Ending} {w' : World} (h : PutPost (Go.redrawn W d) z j cur t v r e w') : PutPost W z j cur t v r e w' := by
  obtain ⟨h1, v', h2, h3, h4, h5, h6⟩ := h
  exact ⟨h1, v', h2, h3, ⟨h4.os, h4.tape, h4.output, h4.size, h4.block⟩, h5, h6⟩
set_option maxHeartbeats 4000000 in
set_option maxRecDepth 100000 in
theorem put_any (W : World) (z j : Nat) (cur : Array Value) (t : TypeId) (hcur : W.heap[z]? = some (.cells cur t (0, 0))) (v : Value) (hj : cur[j]? = some v) (l : List Nm) (ho : OwnS W v l) (hl : l.length ≤ 50) (hne : ∀ k, v.ownBlock = some k → k ≠ z) (b : Nm) (on : Bool) :
    Calls Try.prog 31 #[.pointer (some ⟨z, j, none⟩), .string ⟨⟨b⟩⟩, .bool on] W (PutPost W z j cur t v (put l b on)) := by
  have hc : W.cell? ⟨z, j, none⟩ = some v := by rw [cell_of_row _ _ _ _ _ _ hcur]; exact hj
  obtain ⟨A, c, rfl, hlc, hrd⟩ := ho.form
  have HIX := Lib.hid (Index_any l A c _ b W hrd (by omega))
  have HCUR := Lib.hid hcur
  have HJ := Lib.hid hj
  have HO := Lib.hid ho
  have HNE := Lib.hid hne
  have HL := Lib.hid hl
  clear hrd hcur hj ho hne
  by_cases hsame : decide (b ∈ l) = on
  · have hput : put l b on = (l, 0) := by unfold put; rw [if_pos hsame]
    rw [hput]
    have HP : Hid (PutPost W z j cur t (.slice A l.length c) (l, 0) (.returned (.int .i64 0)) W) := ⟨rfl, .slice A l.length c, by rw [setIf_same HJ.out]; exact HCUR.out, HO.out, Turn.refl _ _, fun k hk => .inl hk, fun h => absurd rfl h⟩
    generalize hm : l.length = m at *
    by_cases hb : b ∈ l
    · obtain ⟨e1, e2⟩ := ix_in hb
      rw [e1] at HIX
      have hon : on = true := by rw [← hsame]; exact decide_eq_true hb
      subst hon
      generalize l.idxOf b = i at *
      clear hsame hput HCUR HJ HO HNE HL hm e1
      go_enter Try.func31, Try.ntmps31
      go_wp2_with fail
      refine HIX.out.mono ?_
      rintro _ w2 ⟨rfl, rfl⟩
      go_wp2
      go_ret
      exact HP.out
    · rw [ix_out hb] at HIX
      have hon : on = false := by rw [← hsame]; exact decide_eq_false hb
      subst hon
      clear hsame hput HCUR HJ HO HNE HL hm
      go_enter Try.func31, Try.ntmps31
      go_wp2_with fail
      refine HIX.out.mono ?_
      rintro _ w2 ⟨rfl, rfl⟩
      go_wp2
      go_ret
      exact HP.out
  · by_cases hb : b ∈ l
    · have hput : put l b on = (l.erase b, 0) := by unfold put; rw [if_neg hsame, if_pos hb]
      rw [hput, erase_ix]
      obtain ⟨e1, e2⟩ := ix_in hb
      rw [e1] at HIX
      have hon : on = false := by
        cases on
        · rfl
        · exact absurd (decide_eq_true hb) hsame
      subst hon
      have hdel := Delete_any l (.slice A l.length c) (l.idxOf b) e2 W HO.out
      rw [show ((l.idxOf b + 1 : Nat) : Int) = (l.idxOf b : Nat) + 1 by omega] at hdel
      generalize hm : l.length = m at *
      generalize l.idxOf b = i at *
      have HD := Lib.hid hdel
      have HM := Lib.hid hm
      clear hsame hput hdel hm e1
      go_enter Try.func31, Try.ntmps31
      go_wp2_with fail
      refine HIX.out.mono ?_
      rintro _ w2 ⟨rfl, rfl⟩
      go_wp2_with fail
      refine HD.out.mono ?_
      rintro _ w3 ⟨v', rfl, ho3, hb3, ht3⟩
      obtain ⟨A', c', rfl, -, -⟩ := ho3.form
      have hc3 := (ht3.block z (Array.getElem?_eq_some_iff.1 HCUR.out).1 (fun e => HNE.out z e rfl)).trans HCUR.out
      have hjs := (Array.getElem?_eq_some_iff.1 HJ.out).1
      have hf := fun k => frozen_of_row _ _ k _ _ hc3
      have hcell : w3.cell? ⟨z, j, none⟩ = some (.slice A m c) := by rw [cell_of_row _ _ _ _ _ _ hc3]; exact HJ.out
      have hnew := heap_setCell_same _ _ j _ _ (.slice A' (l.take i ++ l.drop (i + 1)).length c') hc3
      have HO3 := Lib.hid ho3
      have HB3 := Lib.hid hb3
      have HT3 := Lib.hid ht3
      have HNEW := Lib.hid hnew
      generalize l.take i ++ l.drop (i + 1) = q at *
      clear ho3 hb3 ht3 hnew hc3 hjs
      generalize hq : q.length = lq at *
      clear hq
      go_wp2
      go_ret
      refine ⟨rfl, .slice A' lq c', HNEW.out, HO3.out.keep (fun k hk => heap_setCell_other _ _ _ _ (fun e => HNE.out k (by rw [← HB3.out]; exact hk) e)), ?_, fun k hk => .inl (by rw [← HB3.out]; exact hk), fun h => absurd rfl h⟩
      exact ⟨HT3.out.os, HT3.out.tape, HT3.out.output, by simpa using HT3.out.size, fun k hk hn => (heap_setCell_other _ _ _ _ (fun e => hn (.inl e))).trans (HT3.out.block k hk (fun e => hn (.inr e)))⟩
    · have hon : on = true := by
        cases on
        · exact absurd (decide_eq_false hb) hsame
        · rfl
      subst hon
      rw [ix_out hb] at HIX
      by_cases h50 : 50 ≤ l.length
      · have hput : put l b true = (l, 53) := by unfold put; rw [if_neg hsame, if_neg hb, if_pos h50]
        rw [hput]
        have HP : Hid (PutPost W z j cur t (.slice A l.length c) (l, 53) (.returned (.int .i64 53)) W) := ⟨rfl, .slice A l.length c, by rw [setIf_same HJ.out]; exact HCUR.out, HO.out, Turn.refl _ _, fun k hk => .inl hk, fun h => ⟨rfl, fun _ => rfl⟩⟩
        generalize hm : l.length = m at *
        clear hsame hput HCUR HJ HO HNE HL hm
        have i1 : (50 : Int) ≤ (m : Int) := by omega
        go_enter Try.func31, Try.ntmps31
        go_wp2_with fail
        refine HIX.out.mono ?_
        rintro _ w2 ⟨rfl, rfl⟩
        go_wp2
        go_ret
        exact HP.out
      · have hput : put l b true = (l ++ [b], 0) := by unfold put; rw [if_neg hsame, if_neg hb, if_neg h50]
        rw [hput]
        obtain ⟨v', w3, hr3, ho3, ht3, hb3⟩ := run_appN W (.slice A l.length c) l b HO.out (by omega)
        obtain ⟨A', c', rfl, -, -⟩ := ho3.form
        have hc3 := (ht3.block z (Array.getElem?_eq_some_iff.1 HCUR.out).1 (fun e => HNE.out z e rfl)).trans HCUR.out
        have hf := fun k => frozen_of_row _ _ k _ _ hc3
        have hcell : w3.cell? ⟨z, j, none⟩ = some (.slice A l.length c) := by rw [cell_of_row _ _ _ _ _ _ hc3]; exact HJ.out
        have hnew := heap_setCell_same _ _ j _ _ (.slice A' (l ++ [b]).length c') hc3
        have hne3 : ∀ k, (Value.slice A' (l ++ [b]).length c').ownBlock = some k → k ≠ z := fun k hk e => by
          rcases hb3 k hk with h1 | h1
          · exact HNE.out k h1 e
          · have := (Array.getElem?_eq_some_iff.1 HCUR.out).1; omega
        have HO3 := Lib.hid ho3
        have HB3 := Lib.hid hb3
        have HT3 := Lib.hid ht3
        have HNEW := Lib.hid hnew
        have HR3 := Lib.hid hr3
        have HN3 := Lib.hid hne3
        clear ho3 hb3 ht3 hnew hc3 hr3 hput hsame hne3
        generalize hm : l.length = m at *
        generalize hq : l ++ [b] = q at *
        have i1 : ¬ (50 : Int) ≤ (m : Int) := by omega
        generalize hlq : q.length = lq at *
        clear hq hlq hm
        go_enter Try.func31, Try.ntmps31
        go_wp2_with fail
        refine HIX.out.mono ?_
        rintro _ w2 ⟨rfl, rfl⟩
        go_wp2_with (at_builtin; refine wpList_append_run _ rfl (.tmp 19) (.tmp 21) 29 29 rfl _ _ rfl rfl HR3.out ?_)
        go_ret
        refine ⟨rfl, .slice A' lq c', HNEW.out, HO3.out.keep (fun k hk => heap_setCell_other _ _ _ _ (HN3.out k hk)), ?_, HB3.out, fun h => absurd rfl h⟩
        exact ⟨HT3.out.os, HT3.out.tape, HT3.out.output, by simpa using HT3.out.size, fun k hk hn => (heap_setCell_other _ _ _ _ (fun e => hn (.inl e))).trans (HT3.out.block k hk (fun e => hn (.inr e)))⟩
end Go.Proofs.Ytehmfkcihieecaa.Po
