/-
  No cell of these rows narrows 'for every input' (looked for: loops, veiled, ifaces, maps, wideKeys, modest, calm, conditions, laid).
  DERIVED. THE GIVEN ROWS OF THIS SEAT. 3 by the template 'for every input the law returns true; each argument reads behind the call as it read before'; 0 by the template 'total and deterministic' (their statements: YtcjhgbljhpflfabGreatTotals.lean).
  GIVEN WITH THE SEED: the statements are not yours to turn. If you find one false, say at which input.
  Laid BY PROGRAM, IN A SANDBOX (cutbox-rows.mjs): the forced cells as the released guide's own fill.sh prints them over the translation 9a6069edb0ff3141… (all of the seat's roots in one cut). By AI agents, Wed Nov 11 2026. No macro, syntax, notation, axiom, sorry.
-/
import Derived.Test.YtcjhgbljhpflfabGreatChecked
import GoSem.Claim
import GoSem.ClaimJoined
import GoSem.ClaimMapViews
import Derived.JoinedTies
import Derived.KernelRfl
namespace Go.Proofs.YtcjhgbljhpflfabGreat
/- THE CELL 'sum', in the pinned program and in every row, IS THE sha256 OF THE DUMP (.gsa) THAT YtcjhgbljhpflfabGreatProg.lean LOADS. Nothing in Lean hashes anything: it is a label: what it is worth is what the hold of that sum in a sandbox is worth. -/
noncomputable def Tryz.pinned : Pinned := { name := "ytcjhgbljhpflfabgreat", sum := "9a6069edb0ff31415a92c682dadd391f01cec40575a28f595c143984b94b9226", checked := Tryz.checked }
namespace Rows
def none {H : Type} : Left H := { results := [], args := [] }

/-- 'hushlaw.Linears': WHATEVER THE INPUT: true; the input reads as it did. -/
def linearsSpec : ChangeSpec := { name := "linears", fn := fun _ => fun
  | [d1, d2, d3, d4, d5, d6] => { results := [.lit (.bool true)], args := [d1, d2, d3, d4, d5, d6] }
  | _ => none }
def linearsRow : OpenClaim := { program := "ytcjhgbljhpflfabgreat", sum := "9a6069edb0ff31415a92c682dadd391f01cec40575a28f595c143984b94b9226", func := "hush/hushlaw.Linears", spec := "linears", recurses := true, apart := false }
def LinearsSaid : Prop := linearsRow.holds Tryz.pinned (OpenSpec.ofChange linearsSpec)

/-- ITS FALSE NEIGHBOUR: 'it returns false'. Refute it at one input. -/
def linearsWrong : ChangeSpec := { name := "linears", fn := fun _ => fun
  | [d1, d2, d3, d4, d5, d6] => { results := [.lit (.bool false)], args := [d1, d2, d3, d4, d5, d6] }
  | _ => none }
def LinearsWrongFalsely : Prop := linearsRow.holds Tryz.pinned (OpenSpec.ofChange linearsWrong)

/-- 'hushlaw.Sessions': WHATEVER THE INPUT: true; the input reads as it did. -/
def sessionsSpec : ChangeSpec := { name := "sessions", fn := fun _ => fun
  | [d] => { results := [.lit (.bool true)], args := [d] }
  | _ => none }
def sessionsRow : OpenClaim := { program := "ytcjhgbljhpflfabgreat", sum := "9a6069edb0ff31415a92c682dadd391f01cec40575a28f595c143984b94b9226", func := "hush/hushlaw.Sessions", spec := "sessions", recurses := true, apart := false }
def SessionsSaid : Prop := sessionsRow.holds Tryz.pinned (OpenSpec.ofChange sessionsSpec)

/-- ITS FALSE NEIGHBOUR: 'it returns false'. Refute it at one input. -/
def sessionsWrong : ChangeSpec := { name := "sessions", fn := fun _ => fun
  | [d] => { results := [.lit (.bool false)], args := [d] }
  | _ => none }
def SessionsWrongFalsely : Prop := sessionsRow.holds Tryz.pinned (OpenSpec.ofChange sessionsWrong)

/-- 'hushkeep.Whole': WHATEVER THE INPUT: true; the input reads as it did. -/
def wholeSpec : ChangeSpec := { name := "whole", fn := fun _ => fun
  | [d1, d2, d3, d4, d5] => { results := [.lit (.bool true)], args := [d1, d2, d3, d4, d5] }
  | _ => none }
def wholeRow : OpenClaim := { program := "ytcjhgbljhpflfabgreat", sum := "9a6069edb0ff31415a92c682dadd391f01cec40575a28f595c143984b94b9226", func := "hush/hushkeep.Whole", spec := "whole", apart := false }
def WholeSaid : Prop := wholeRow.holds Tryz.pinned (OpenSpec.ofChange wholeSpec)

/-- ITS FALSE NEIGHBOUR: 'it returns false'. Refute it at one input. -/
def wholeWrong : ChangeSpec := { name := "whole", fn := fun _ => fun
  | [d1, d2, d3, d4, d5] => { results := [.lit (.bool false)], args := [d1, d2, d3, d4, d5] }
  | _ => none }
def WholeWrongFalsely : Prop := wholeRow.holds Tryz.pinned (OpenSpec.ofChange wholeWrong)

/- THE SECOND FORM. 'bulk': how many values and letters a reading holds, each counted each time it is reached (what is shared counts as often as it is met; a slice's spare places count too). A statement '..UptoSaid' is the law's where the arguments, and the package variables that the reading takes, are together of bulk at most 1048576: NARROWER than '..Said'. Prove '..Said' where nothing that the law and all that it calls make is longer than what came in: it says more and counts as full. Else prove '..UptoSaid'. A law counts once. -/
mutual
def uptoBulk {H : Type} : DataW H → Nat
  | .lit (.string bytes) => bytes.length + 1
  | .lit _ => 1
  | .nil => 1
  | .ptr d => uptoBulk d + 1
  | .slice elems spare => uptoBulkAll elems + uptoBulkAll spare + 1
  | .agg parts => uptoBulkAll parts + 1
  | .iface _ d => uptoBulk d + 1
  | .map entries => uptoBulkEntries entries + 1
  | .held _ => 1
def uptoBulkAll {H : Type} : List (DataW H) → Nat
  | [] => 0
  | d :: r => uptoBulk d + uptoBulkAll r
def uptoBulkEntries {H : Type} : List (Lit × DataW H) → Nat
  | [] => 0
  | x :: r => uptoBulkEntry x + uptoBulkEntries r
def uptoBulkEntry {H : Type} : Lit × DataW H → Nat
  | (.string bytes, d) => bytes.length + uptoBulk d + 1
  | (_, d) => uptoBulk d + 1
 end
def uptoSmall : (H : Type) → List (DataW H) → Bool := fun _ ds => decide (uptoBulkAll ds ≤ 1048576)
def OpenSpec.upto (s : _root_.Go.ChangeSpec) : _root_.Go.OpenSpec := { _root_.Go.OpenSpec.ofChange s with cond := some uptoSmall }

/-- 'hushlaw.Linears', WHERE WHAT IT READS IS OF BULK AT MOST 1048576: true; the input reads as it did. -/
def linearsUptoRow : OpenClaim := { program := "ytcjhgbljhpflfabgreat", sum := "9a6069edb0ff31415a92c682dadd391f01cec40575a28f595c143984b94b9226", func := "hush/hushlaw.Linears", spec := "linears", recurses := true, apart := false, narrowed := true }
def LinearsUptoSaid : Prop := linearsUptoRow.holds Tryz.pinned (OpenSpec.upto linearsSpec)

/-- 'hushlaw.Sessions', WHERE WHAT IT READS IS OF BULK AT MOST 1048576: true; the input reads as it did. -/
def sessionsUptoRow : OpenClaim := { program := "ytcjhgbljhpflfabgreat", sum := "9a6069edb0ff31415a92c682dadd391f01cec40575a28f595c143984b94b9226", func := "hush/hushlaw.Sessions", spec := "sessions", recurses := true, apart := false, narrowed := true }
def SessionsUptoSaid : Prop := sessionsUptoRow.holds Tryz.pinned (OpenSpec.upto sessionsSpec)

/-- 'hushkeep.Whole', WHERE WHAT IT READS IS OF BULK AT MOST 1048576: true; the input reads as it did. -/
def wholeUptoRow : OpenClaim := { program := "ytcjhgbljhpflfabgreat", sum := "9a6069edb0ff31415a92c682dadd391f01cec40575a28f595c143984b94b9226", func := "hush/hushkeep.Whole", spec := "whole", apart := false, narrowed := true }
def WholeUptoSaid : Prop := wholeUptoRow.holds Tryz.pinned (OpenSpec.upto wholeSpec)

end Rows
end Go.Proofs.YtcjhgbljhpflfabGreat
