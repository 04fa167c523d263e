/- The law's digits. -/
import Derived.Test.YtiidooponlbnmaaDoorTmV1
namespace Go.Proofs.YtiidooponlbnmaaDoor.Te
open Go.RowKit
open Tt

def dgc (i : Nat) (c : UInt8) : Bool := (decide (48 ≤ c.toNat) && decide (c.toNat ≤ 57)) || (decide (i = 0) && decide (c.toNat = 45))
def pfx (s : List UInt8) (i : Nat) : Bool := (List.range i).all fun j => dgc j (s.getD j 0)
theorem pfx_succ (s : List UInt8) (i : Nat) (h : i < s.length) : pfx s (i + 1) = (pfx s i && dgc i s[i]) := by
  rw [pfx, List.range_succ, List.all_append]
  simp [pfx, h]
mutual
/-- Has it a name that reads as a number? -/
def dg : Tm → Bool
  | .mk k s _ l => (decide (k = 0) && decide (s ≠ []) && pfx s s.length) || dgl l
def dgl : List Tm → Bool
  | [] => false
  | x :: r => dg x || dgl r
end
theorem dgl_any : ∀ l, dgl l = l.any dg
  | [] => by simp [dgl]
  | x :: r => by simp [dgl, dgl_any r]
theorem byteAt2 (s : List UInt8) (k : Nat) (h : k < s.length) : (ByteArray.mk ⟨s⟩)[k]'h = s[k] := rfl
theorem ret_b2 {a b : Bool} (h : a = b) : Ending.returned (.bool a) = .returned (.bool b) := by rw [h]

/-- The first part: what follows from the loop over the terms within. -/
def Rest (q : List Tm) (R : Bool) : Prop := R = dgl q

end Go.Proofs.YtiidooponlbnmaaDoor.Te
