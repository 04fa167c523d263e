/- A row of terms appended onto an own row; nothing else is touched. (Laid with NS=1.) -/
import Derived.Test.YtiidooponlbnmaaDoorKnMem
import Derived.Test.YtiidooponlbnmaaDoorTmB
import Derived.Deep.Upon
namespace Go.Proofs.YtiidooponlbnmaaDoor.Kn
open Go.RowKit
open Te Te.Tt
open Go (Lit DataW MemPlace keyOf maxLen)

theorem own_cap {S : Nat → Prop} {w : World} {base : Nat} {v : Value} {l : List Tm} (h : OwnC S w base v l) : ∃ A ca, v = .slice A l.length ca ∧ l.length ≤ ca := by
  obtain ⟨xs, ⟨_, h⟩, _⟩ := h
  rcases h with ⟨rfl, h0⟩ | ⟨g, cap, cur, rfl, _, _, h3, _⟩
  · exact ⟨none, 0, by rw [h0], by omega⟩
  · exact ⟨_, _, rfl, h3⟩
theorem run_appQ (W : World) (base : Nat) (v : Value) (l q : List Tm) (A : Option Addr) (cu : Nat) (T : Nat → Prop) (hown : OwnC T W base v l) (hq : QRow W T q A) (hT : ∀ b, T b → b < W.heap.size ∧ v.ownBlock ≠ some b) (hl : l.length + q.length ≤ 1000000) (hbase : base ≤ W.heap.size) :
    ∃ v' w', (Builtin.append_ #[22, 22] 22 #[v, .slice A q.length cu]).run Tryd.prog W = .ok v' w' ∧ OwnC T w' base v' (l ++ q) ∧ Grw W v w' v' := by
  obtain ⟨i, hi, he⟩ := Option.map_eq_some_iff.1 infoT
  simp only [Prod.mk.injEq] at he
  obtain ⟨hz, hsz, hb⟩ := he
  by_cases hne : q = []
  · subst hne
    obtain ⟨B, cb, rfl, hle⟩ := own_cap hown
    have hsrc : Src Tryd.prog i.size 22 (.slice A 0 cu) 0 [] W := by
      cases A with
      | none => exact Src.ofNil W Tryd.underlying22 cu
      | some ad => exact Src.ofSlice W Tryd.underlying22 ad 0 cu [] (by simp) (fun j u hj => by simp at hj) (fun u hu => by simp at hu)
    have hr := run_append_nothing (P := Tryd.prog) W 22 22 22 33 i Tryd.underlying22 hi B l.length cb hle (.slice A 0 cu) hsrc
    exact ⟨_, W, hr, by rw [List.append_nil]; exact hown, Grw.refl _ _⟩
  rcases hq with hq | ⟨g, go, ys, rfl, hels2, hcells⟩
  · exact absurd hq hne
  obtain ⟨xs, hrow, hels⟩ := hown
  have hyl := elsc_len q ys hels2
  obtain ⟨v', w', hr, ho, hg, -, hat⟩ := run_append_own_at (P := Tryd.prog) W base 22 22 33 i _ 4 56 Tryd.underlying22 hi hz hsz hb rfl (by decide) v l.length xs hrow ⟨g, go, none⟩ q.length cu ys hyl (fun j u hj => by rw [Addr.add_lit]; exact hcells j u hj) (elsc_one_cell q ys hels2) (by simp only [maxLen]; omega) (by omega) hbase
  refine ⟨v', w', hr, ⟨_, by rw [List.length_append]; exact ho, ?_⟩, hg, ?_⟩
  · have hblk : ∀ b, T b → w'.heap[b]? = W.heap[b]? := fun b hb' => hg.block b (hT b hb').1 (fun e => (hT b hb').2 e.symm)
    exact elsc_keep (fun _ h => h) (fun b o hb' => World.cell?_of_block (a := ⟨b, o, none⟩) (hblk b hb')) _ _ (elsc_app l xs q ys hels hels2)
  · rcases hat with h1 | h1
    · exact .inl h1
    · exact .inr fun k hk => by rw [h1] at hk; cases hk; exact Nat.le_refl _
theorem elsc_take {w : World} {T : Nat → Prop} : ∀ (l : List Tm) (xs : List Value) (m : Nat), ElsC w T l xs → ElsC w T (l.take m) (xs.take (m * 4))
  | l, xs, 0, _ => by simp [ElsC]
  | [], xs, m + 1, h => by rw [ElsC] at h; subst h; simp [ElsC]
  | x :: r, v0 :: v1 :: v2 :: v3 :: xs, m + 1, h => by
    rw [ElsC] at h
    rw [List.take_succ_cons, show (m + 1) * 4 = m * 4 + 1 + 1 + 1 + 1 by omega, List.take_succ_cons, List.take_succ_cons, List.take_succ_cons, List.take_succ_cons, ElsC]
    exact ⟨h.1, elsc_take r xs m h.2⟩
  | _ :: _, [], _ + 1, h => by simp [ElsC] at h
  | _ :: _, [_], _ + 1, h => by simp [ElsC] at h
  | _ :: _, [_, _], _ + 1, h => by simp [ElsC] at h
  | _ :: _, [_, _, _], _ + 1, h => by simp [ElsC] at h
/-- The first terms of an own row are an own row. -/
theorem own_cut {T : Nat → Prop} {w : World} {base ca : Nat} {A : Option Addr} {l : List Tm} (m : Nat) (h : OwnC T w base (.slice A l.length ca) l) (hm : m ≤ l.length) (h0 : l ≠ []) : OwnC T w base (.slice A m ca) (l.take m) := by
  obtain ⟨xs, ⟨h1, h2⟩, h3⟩ := h
  have hlen : (l.take m).length = m := by rw [List.length_take]; omega
  refine ⟨xs.take (m * 4), ⟨by rw [List.length_take, hlen]; omega, ?_⟩, elsc_take l xs m h3⟩
  rcases h2 with ⟨_, h2⟩ | ⟨g, cap, cur, hv, hg, hc, hn, hcm, hcs, ht⟩
  · exact absurd (List.eq_nil_of_length_eq_zero h2) h0
  · injection hv with e1 e2 e3
    subst e1 e3
    refine .inr ⟨g, ca, cur, by rw [hlen], hg, hc, by omega, hcm, hcs, ?_⟩
    rw [hlen, ← ht, List.take_take, Nat.min_eq_left (by omega)]
/-- An own row stays where its own block, and what its terms lead to, stays. -/
theorem own_grw {T T' : Nat → Prop} {w w' : World} {base : Nat} {v u u' : Value} {l : List Tm} (h : OwnC T w base v l) (hg : Grw w u w' u') (hu : ∀ k, v.ownBlock = some k → u.ownBlock ≠ some k) (hT : ∀ b, T b → b < w.heap.size ∧ u.ownBlock ≠ some b) (hT' : ∀ b, T b → T' b) : OwnC T' w' base v l :=
  h.keep (fun k hk => hg.grown.block k (h.lt k hk).2 (fun e => hu k hk e.symm)) hT' (fun b hb => hg.grown.block b (hT b hb).1 (fun e => (hT b hb).2 e.symm))
end Go.Proofs.YtiidooponlbnmaaDoor.Kn
