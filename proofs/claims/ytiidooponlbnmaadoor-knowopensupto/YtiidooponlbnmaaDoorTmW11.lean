/- list, write, Text. -/
import Derived.Test.YtiidooponlbnmaaDoorTmW10
import Derived.Test.YtiidooponlbnmaaDoorTmW4
namespace Go.Proofs.YtiidooponlbnmaaDoor.Te
open Go.RowKit
open Tt

theorem jn_take_zero (q : List Tm) (h : 0 < q.length) : jn (texts (q.take 1)) = text q[0] := by
  cases q with
  | nil => simp at h
  | cons x r => simp [texts, jn]
theorem jn_take_succ (q : List Tm) (i : Nat) (h : i < q.length) (h0 : 0 < i) : jn (texts (q.take (i + 1))) = jn (texts (q.take i)) ++ 32 :: text q[i] := by
  rw [List.take_succ_eq_append_getElem h, texts_map, texts_map, List.map_append, List.map_singleton, jn_snoc]
  intro e
  have := congrArg List.length e
  rw [List.length_map, List.length_take, List.length_nil] at this
  omega
theorem jn_len : ∀ (l m : List Tm), (jn (texts l)).length ≤ (jn (texts (l ++ m))).length
  | [], m => by simp [texts, jn]
  | x :: r, m => by
    rw [List.cons_append, texts, texts, jn_pj, jn_pj]
    have h : (pj (texts r)).length ≤ (pj (texts (r ++ m))).length := by
      rw [texts_map, texts_map, List.map_append]
      simp [pj]
    simp; omega
theorem jn_take_len (q : List Tm) (i : Nat) : (jn (texts (q.take i))).length ≤ (jn (texts q)).length := by
  have := jn_len (q.take i) (q.drop i)
  rwa [List.take_append_drop] at this

end Go.Proofs.YtiidooponlbnmaaDoor.Te
