/-
  No cell of these rows narrows 'for every input' (looked for: loops, veiled, ifaces, maps, wideKeys, modest, calm, conditions, laid).
  DERIVED. THE GIVEN ROWS OF THIS SEAT. 5 by the template 'for every input the law returns true; each argument reads behind the call as it read before'; 0 by the template 'total and deterministic' (their statements: YtehmfkcihieecaaTotals.lean).
  GIVEN WITH THE SEED: the statements are not yours to turn. If you find one false, say at which input.
  Laid BY PROGRAM, IN A SANDBOX (cutbox-rows.mjs): the forced cells as the released guide's own fill.sh prints them over the translation 36b02128f8b12202… (all of the seat's roots in one cut). By AI agents, Wed Nov 11 2026. No macro, syntax, notation, axiom, sorry.
-/
import Derived.Test.YtehmfkcihieecaaChecked
import GoSem.Claim
import GoSem.ClaimJoined
import GoSem.ClaimMapViews
import Derived.JoinedTies
import Derived.KernelRfl
namespace Go.Proofs.Ytehmfkcihieecaa
/- THE CELL 'sum', in the pinned program and in every row, IS THE sha256 OF THE DUMP (.gsa) THAT YtehmfkcihieecaaProg.lean LOADS. Nothing in Lean hashes anything: it is a label: what it is worth is what the hold of that sum in a sandbox is worth. -/
noncomputable def Try.pinned : Pinned := { name := "ytehmfkcihieecaa", sum := "36b02128f8b12202f9346da8912f53d5a6008745703288c79c34695532035ec8", checked := Try.checked }
namespace Rows
def none {H : Type} : Left H := { results := [], args := [] }

/-- 'legatelaw12.PolicySets': WHATEVER THE INPUT: true; the input reads as it did. -/
def policySetsSpec : ChangeSpec := { name := "policySets", fn := fun _ => fun
  | [d1, d2, d3, d4, d5, d6] => { results := [.lit (.bool true)], args := [d1, d2, d3, d4, d5, d6] }
  | _ => none }
def policySetsRow : OpenClaim := { program := "ytehmfkcihieecaa", sum := "36b02128f8b12202f9346da8912f53d5a6008745703288c79c34695532035ec8", func := "legate/legatelaw12.PolicySets", spec := "policySets", unfollowed := true, recurses := true, apart := false }
def PolicySetsSaid : Prop := policySetsRow.holds Try.pinned (OpenSpec.ofChange policySetsSpec)

/-- ITS FALSE NEIGHBOUR: 'it returns false'. Refute it at one input. -/
def policySetsWrong : ChangeSpec := { name := "policySets", fn := fun _ => fun
  | [d1, d2, d3, d4, d5, d6] => { results := [.lit (.bool false)], args := [d1, d2, d3, d4, d5, d6] }
  | _ => none }
def PolicySetsWrongFalsely : Prop := policySetsRow.holds Try.pinned (OpenSpec.ofChange policySetsWrong)

/-- 'legatelaw12.PolicyKeys': WHATEVER THE INPUT: true; the input reads as it did. -/
def policyKeysSpec : ChangeSpec := { name := "policyKeys", fn := fun _ => fun
  | [d1, d2, d3] => { results := [.lit (.bool true)], args := [d1, d2, d3] }
  | _ => none }
def policyKeysRow : OpenClaim := { program := "ytehmfkcihieecaa", sum := "36b02128f8b12202f9346da8912f53d5a6008745703288c79c34695532035ec8", func := "legate/legatelaw12.PolicyKeys", spec := "policyKeys", unfollowed := true, recurses := true, apart := false }
def PolicyKeysSaid : Prop := policyKeysRow.holds Try.pinned (OpenSpec.ofChange policyKeysSpec)

/-- ITS FALSE NEIGHBOUR: 'it returns false'. Refute it at one input. -/
def policyKeysWrong : ChangeSpec := { name := "policyKeys", fn := fun _ => fun
  | [d1, d2, d3] => { results := [.lit (.bool false)], args := [d1, d2, d3] }
  | _ => none }
def PolicyKeysWrongFalsely : Prop := policyKeysRow.holds Try.pinned (OpenSpec.ofChange policyKeysWrong)

/-- 'legatelaw12.PolicyFlags': WHATEVER THE INPUT: true; the input reads as it did. -/
def policyFlagsSpec : ChangeSpec := { name := "policyFlags", fn := fun _ => fun
  | [d1, d2, d3, d4] => { results := [.lit (.bool true)], args := [d1, d2, d3, d4] }
  | _ => none }
def policyFlagsRow : OpenClaim := { program := "ytehmfkcihieecaa", sum := "36b02128f8b12202f9346da8912f53d5a6008745703288c79c34695532035ec8", func := "legate/legatelaw12.PolicyFlags", spec := "policyFlags", unfollowed := true, recurses := true, apart := false }
def PolicyFlagsSaid : Prop := policyFlagsRow.holds Try.pinned (OpenSpec.ofChange policyFlagsSpec)

/-- ITS FALSE NEIGHBOUR: 'it returns false'. Refute it at one input. -/
def policyFlagsWrong : ChangeSpec := { name := "policyFlags", fn := fun _ => fun
  | [d1, d2, d3, d4] => { results := [.lit (.bool false)], args := [d1, d2, d3, d4] }
  | _ => none }
def PolicyFlagsWrongFalsely : Prop := policyFlagsRow.holds Try.pinned (OpenSpec.ofChange policyFlagsWrong)

/-- 'legatelaw12.PolicyFull': WHATEVER THE INPUT: true; the input reads as it did. -/
def policyFullSpec : ChangeSpec := { name := "policyFull", fn := fun _ => fun
  | [d1, d2] => { results := [.lit (.bool true)], args := [d1, d2] }
  | _ => none }
def policyFullRow : OpenClaim := { program := "ytehmfkcihieecaa", sum := "36b02128f8b12202f9346da8912f53d5a6008745703288c79c34695532035ec8", func := "legate/legatelaw12.PolicyFull", spec := "policyFull", unfollowed := true, recurses := true, apart := false }
def PolicyFullSaid : Prop := policyFullRow.holds Try.pinned (OpenSpec.ofChange policyFullSpec)

/-- ITS FALSE NEIGHBOUR: 'it returns false'. Refute it at one input. -/
def policyFullWrong : ChangeSpec := { name := "policyFull", fn := fun _ => fun
  | [d1, d2] => { results := [.lit (.bool false)], args := [d1, d2] }
  | _ => none }
def PolicyFullWrongFalsely : Prop := policyFullRow.holds Try.pinned (OpenSpec.ofChange policyFullWrong)

/-- 'legatelaw12.PolicyBack': WHATEVER THE INPUT: true; the input reads as it did. -/
def policyBackSpec : ChangeSpec := { name := "policyBack", fn := fun _ => fun
  | [d1, d2, d3, d4] => { results := [.lit (.bool true)], args := [d1, d2, d3, d4] }
  | _ => none }
def policyBackRow : OpenClaim := { program := "ytehmfkcihieecaa", sum := "36b02128f8b12202f9346da8912f53d5a6008745703288c79c34695532035ec8", func := "legate/legatelaw12.PolicyBack", spec := "policyBack", unfollowed := true, recurses := true, apart := false }
def PolicyBackSaid : Prop := policyBackRow.holds Try.pinned (OpenSpec.ofChange policyBackSpec)

/-- ITS FALSE NEIGHBOUR: 'it returns false'. Refute it at one input. -/
def policyBackWrong : ChangeSpec := { name := "policyBack", fn := fun _ => fun
  | [d1, d2, d3, d4] => { results := [.lit (.bool false)], args := [d1, d2, d3, d4] }
  | _ => none }
def PolicyBackWrongFalsely : Prop := policyBackRow.holds Try.pinned (OpenSpec.ofChange policyBackWrong)

/- THE SECOND FORM. 'bulk': how many values and letters a reading holds, each counted each time it is reached (what is shared counts as often as it is met; a slice's spare places count too). A statement '..UptoSaid' is the law's where the arguments, and the package variables that the reading takes, are together of bulk at most 1048576: NARROWER than '..Said'. Prove '..Said' where nothing that the law and all that it calls make is longer than what came in: it says more and counts as full. Else prove '..UptoSaid'. A law counts once. -/
mutual
def uptoBulk {H : Type} : DataW H → Nat
  | .lit (.string bytes) => bytes.length + 1
  | .lit _ => 1
  | .nil => 1
  | .ptr d => uptoBulk d + 1
  | .slice elems spare => uptoBulkAll elems + uptoBulkAll spare + 1
  | .agg parts => uptoBulkAll parts + 1
  | .iface _ d => uptoBulk d + 1
  | .map entries => uptoBulkEntries entries + 1
  | .held _ => 1
def uptoBulkAll {H : Type} : List (DataW H) → Nat
  | [] => 0
  | d :: r => uptoBulk d + uptoBulkAll r
def uptoBulkEntries {H : Type} : List (Lit × DataW H) → Nat
  | [] => 0
  | x :: r => uptoBulkEntry x + uptoBulkEntries r
def uptoBulkEntry {H : Type} : Lit × DataW H → Nat
  | (.string bytes, d) => bytes.length + uptoBulk d + 1
  | (_, d) => uptoBulk d + 1
 end
def uptoSmall : (H : Type) → List (DataW H) → Bool := fun _ ds => decide (uptoBulkAll ds ≤ 1048576)
def OpenSpec.upto (s : _root_.Go.ChangeSpec) : _root_.Go.OpenSpec := { _root_.Go.OpenSpec.ofChange s with cond := some uptoSmall }

/-- 'legatelaw12.PolicySets', WHERE WHAT IT READS IS OF BULK AT MOST 1048576: true; the input reads as it did. -/
def policySetsUptoRow : OpenClaim := { program := "ytehmfkcihieecaa", sum := "36b02128f8b12202f9346da8912f53d5a6008745703288c79c34695532035ec8", func := "legate/legatelaw12.PolicySets", spec := "policySets", unfollowed := true, recurses := true, apart := false, narrowed := true }
def PolicySetsUptoSaid : Prop := policySetsUptoRow.holds Try.pinned (OpenSpec.upto policySetsSpec)

/-- 'legatelaw12.PolicyKeys', WHERE WHAT IT READS IS OF BULK AT MOST 1048576: true; the input reads as it did. -/
def policyKeysUptoRow : OpenClaim := { program := "ytehmfkcihieecaa", sum := "36b02128f8b12202f9346da8912f53d5a6008745703288c79c34695532035ec8", func := "legate/legatelaw12.PolicyKeys", spec := "policyKeys", unfollowed := true, recurses := true, apart := false, narrowed := true }
def PolicyKeysUptoSaid : Prop := policyKeysUptoRow.holds Try.pinned (OpenSpec.upto policyKeysSpec)

/-- 'legatelaw12.PolicyFlags', WHERE WHAT IT READS IS OF BULK AT MOST 1048576: true; the input reads as it did. -/
def policyFlagsUptoRow : OpenClaim := { program := "ytehmfkcihieecaa", sum := "36b02128f8b12202f9346da8912f53d5a6008745703288c79c34695532035ec8", func := "legate/legatelaw12.PolicyFlags", spec := "policyFlags", unfollowed := true, recurses := true, apart := false, narrowed := true }
def PolicyFlagsUptoSaid : Prop := policyFlagsUptoRow.holds Try.pinned (OpenSpec.upto policyFlagsSpec)

/-- 'legatelaw12.PolicyFull', WHERE WHAT IT READS IS OF BULK AT MOST 1048576: true; the input reads as it did. -/
def policyFullUptoRow : OpenClaim := { program := "ytehmfkcihieecaa", sum := "36b02128f8b12202f9346da8912f53d5a6008745703288c79c34695532035ec8", func := "legate/legatelaw12.PolicyFull", spec := "policyFull", unfollowed := true, recurses := true, apart := false, narrowed := true }
def PolicyFullUptoSaid : Prop := policyFullUptoRow.holds Try.pinned (OpenSpec.upto policyFullSpec)

/-- 'legatelaw12.PolicyBack', WHERE WHAT IT READS IS OF BULK AT MOST 1048576: true; the input reads as it did. -/
def policyBackUptoRow : OpenClaim := { program := "ytehmfkcihieecaa", sum := "36b02128f8b12202f9346da8912f53d5a6008745703288c79c34695532035ec8", func := "legate/legatelaw12.PolicyBack", spec := "policyBack", unfollowed := true, recurses := true, apart := false, narrowed := true }
def PolicyBackUptoSaid : Prop := policyBackUptoRow.holds Try.pinned (OpenSpec.upto policyBackSpec)

end Rows
end Go.Proofs.Ytehmfkcihieecaa
