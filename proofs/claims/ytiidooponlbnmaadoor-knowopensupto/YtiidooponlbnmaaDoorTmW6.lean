/- Names. -/
import Derived.Test.YtiidooponlbnmaaDoorTmW5
namespace Go.Proofs.YtiidooponlbnmaaDoor.Te
open Go.RowKit
open Tt

theorem infoS : (Tryd.prog.info? 9).map (fun i => (i.zero, i.size, i.bytes)) = some (some (.string ⟨#[]⟩), 1, 16) := by kernel_rfl
theorem makeS_any (n : Nat) (h : n ≤ 1000000) (W : World) : ∃ cur : Array Value, cur.size = n ∧ (Instr.makeSlice 49 (.int .i64 (n : Int)) (.int .i64 (n : Int))).run Tryd.prog W = .ok (.slice (some ⟨W.heap.size, 0, none⟩) n n) (W.alloc (.cells cur 9)) := by
  obtain ⟨i, hi, he⟩ := Option.map_eq_some_iff.1 infoS
  simp only [Prod.mk.injEq] at he
  obtain ⟨hz, hs, hb⟩ := he
  have hr := run_make (P := Tryd.prog) W 49 9 i _ Tryd.underlying49 hi hz .i64 .i64 n n (by omega) (by omega) (by rw [hb]; omega) (by omega)
  rw [hr, hs, Int.toNat_natCast, Nat.mul_one]
  exact ⟨_, size_madeCells _ _, rfl⟩

/-- A row of texts that was made just now, without room. -/
def NewStrs (n : Nat) (w' : World) (l : List (List UInt8)) (v : Value) : Prop :=
  ∃ g, v = .slice (some ⟨g, 0, none⟩) l.length l.length ∧ n ≤ g ∧ w'.heap[g]? = some (.cells (l.map fun s => Value.string ⟨⟨s⟩⟩).toArray 9 (0, 0))

end Go.Proofs.YtiidooponlbnmaaDoor.Te
