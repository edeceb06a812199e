/-
  No cell of these rows narrows 'for every input' (looked for: loops, veiled, ifaces, maps, wideKeys, modest, calm, conditions, laid).
  DERIVED. THE GIVEN ROWS OF THIS SEAT. 4 by the template 'for every input the law returns true; each argument reads behind the call as it read before'; 0 by the template 'total and deterministic' (their statements: YtcjhgbljhpflfabTotals.lean).
  GIVEN WITH THE SEED: the statements are not yours to turn. If you find one false, say at which input.
  Laid BY PROGRAM, IN A SANDBOX (cutbox-rows.mjs): the forced cells as the released guide's own fill.sh prints them over the translation 24104edef0f085a1… (all of the seat's roots in one cut). By AI agents, Wed Nov 11 2026. No macro, syntax, notation, axiom, sorry.
-/
import Derived.Test.YtcjhgbljhpflfabChecked
import GoSem.Claim
import GoSem.ClaimJoined
import GoSem.ClaimMapViews
import Derived.JoinedTies
import Derived.KernelRfl
namespace Go.Proofs.Ytcjhgbljhpflfab
/- THE CELL 'sum', in the pinned program and in every row, IS THE sha256 OF THE DUMP (.gsa) THAT YtcjhgbljhpflfabProg.lean LOADS. Nothing in Lean hashes anything: it is a label: what it is worth is what the hold of that sum in a sandbox is worth. -/
noncomputable def Try.pinned : Pinned := { name := "ytcjhgbljhpflfab", sum := "24104edef0f085a1438d647b9a9752c6834fc593e50ae00f164c581c5892a40e", checked := Try.checked }
namespace Rows
def none {H : Type} : Left H := { results := [], args := [] }

/-- 'hushkeep.Bounded': WHATEVER THE INPUT: true; the input reads as it did. -/
def boundedSpec : ChangeSpec := { name := "bounded", fn := fun _ => fun
  | [d1, d2, d3, d4, d5] => { results := [.lit (.bool true)], args := [d1, d2, d3, d4, d5] }
  | _ => none }
def boundedRow : OpenClaim := { program := "ytcjhgbljhpflfab", sum := "24104edef0f085a1438d647b9a9752c6834fc593e50ae00f164c581c5892a40e", func := "hush/hushkeep.Bounded", spec := "bounded", apart := false }
def BoundedSaid : Prop := boundedRow.holds Try.pinned (OpenSpec.ofChange boundedSpec)

/-- ITS FALSE NEIGHBOUR: 'it returns false'. Refute it at one input. -/
def boundedWrong : ChangeSpec := { name := "bounded", fn := fun _ => fun
  | [d1, d2, d3, d4, d5] => { results := [.lit (.bool false)], args := [d1, d2, d3, d4, d5] }
  | _ => none }
def BoundedWrongFalsely : Prop := boundedRow.holds Try.pinned (OpenSpec.ofChange boundedWrong)

/-- 'hushkeep.Alike': WHATEVER THE INPUT: true; the input reads as it did. -/
def alikeSpec : ChangeSpec := { name := "alike", fn := fun _ => fun
  | [d1, d2, d3, d4, d5, d6, d7, d8] => { results := [.lit (.bool true)], args := [d1, d2, d3, d4, d5, d6, d7, d8] }
  | _ => none }
def alikeRow : OpenClaim := { program := "ytcjhgbljhpflfab", sum := "24104edef0f085a1438d647b9a9752c6834fc593e50ae00f164c581c5892a40e", func := "hush/hushkeep.Alike", spec := "alike", apart := false }
def AlikeSaid : Prop := alikeRow.holds Try.pinned (OpenSpec.ofChange alikeSpec)

/-- ITS FALSE NEIGHBOUR: 'it returns false'. Refute it at one input. -/
def alikeWrong : ChangeSpec := { name := "alike", fn := fun _ => fun
  | [d1, d2, d3, d4, d5, d6, d7, d8] => { results := [.lit (.bool false)], args := [d1, d2, d3, d4, d5, d6, d7, d8] }
  | _ => none }
def AlikeWrongFalsely : Prop := alikeRow.holds Try.pinned (OpenSpec.ofChange alikeWrong)

/-- 'hushlaw.Bends': WHATEVER THE INPUT: true; the input reads as it did. -/
def bendsSpec : ChangeSpec := { name := "bends", fn := fun _ => fun
  | [d1, d2, d3, d4, d5] => { results := [.lit (.bool true)], args := [d1, d2, d3, d4, d5] }
  | _ => none }
def bendsRow : OpenClaim := { program := "ytcjhgbljhpflfab", sum := "24104edef0f085a1438d647b9a9752c6834fc593e50ae00f164c581c5892a40e", func := "hush/hushlaw.Bends", spec := "bends", recurses := true, apart := false }
def BendsSaid : Prop := bendsRow.holds Try.pinned (OpenSpec.ofChange bendsSpec)

/-- ITS FALSE NEIGHBOUR: 'it returns false'. Refute it at one input. -/
def bendsWrong : ChangeSpec := { name := "bends", fn := fun _ => fun
  | [d1, d2, d3, d4, d5] => { results := [.lit (.bool false)], args := [d1, d2, d3, d4, d5] }
  | _ => none }
def BendsWrongFalsely : Prop := bendsRow.holds Try.pinned (OpenSpec.ofChange bendsWrong)

/-- 'hushlaw.Plains': WHATEVER THE INPUT: true; the input reads as it did. -/
def plainsSpec : ChangeSpec := { name := "plains", fn := fun _ => fun
  | [d1, d2, d3] => { results := [.lit (.bool true)], args := [d1, d2, d3] }
  | _ => none }
def plainsRow : OpenClaim := { program := "ytcjhgbljhpflfab", sum := "24104edef0f085a1438d647b9a9752c6834fc593e50ae00f164c581c5892a40e", func := "hush/hushlaw.Plains", spec := "plains", recurses := true, apart := false }
def PlainsSaid : Prop := plainsRow.holds Try.pinned (OpenSpec.ofChange plainsSpec)

/-- ITS FALSE NEIGHBOUR: 'it returns false'. Refute it at one input. -/
def plainsWrong : ChangeSpec := { name := "plains", fn := fun _ => fun
  | [d1, d2, d3] => { results := [.lit (.bool false)], args := [d1, d2, d3] }
  | _ => none }
def PlainsWrongFalsely : Prop := plainsRow.holds Try.pinned (OpenSpec.ofChange plainsWrong)

/- THE SECOND FORM. 'bulk': how many values and letters a reading holds, each counted each time it is reached (what is shared counts as often as it is met; a slice's spare places count too). A statement '..UptoSaid' is the law's where the arguments, and the package variables that the reading takes, are together of bulk at most 1048576: NARROWER than '..Said'. Prove '..Said' where nothing that the law and all that it calls make is longer than what came in: it says more and counts as full. Else prove '..UptoSaid'. A law counts once. -/
mutual
def uptoBulk {H : Type} : DataW H → Nat
  | .lit (.string bytes) => bytes.length + 1
  | .lit _ => 1
  | .nil => 1
  | .ptr d => uptoBulk d + 1
  | .slice elems spare => uptoBulkAll elems + uptoBulkAll spare + 1
  | .agg parts => uptoBulkAll parts + 1
  | .iface _ d => uptoBulk d + 1
  | .map entries => uptoBulkEntries entries + 1
  | .held _ => 1
def uptoBulkAll {H : Type} : List (DataW H) → Nat
  | [] => 0
  | d :: r => uptoBulk d + uptoBulkAll r
def uptoBulkEntries {H : Type} : List (Lit × DataW H) → Nat
  | [] => 0
  | x :: r => uptoBulkEntry x + uptoBulkEntries r
def uptoBulkEntry {H : Type} : Lit × DataW H → Nat
  | (.string bytes, d) => bytes.length + uptoBulk d + 1
  | (_, d) => uptoBulk d + 1
 end
def uptoSmall : (H : Type) → List (DataW H) → Bool := fun _ ds => decide (uptoBulkAll ds ≤ 1048576)
def OpenSpec.upto (s : _root_.Go.ChangeSpec) : _root_.Go.OpenSpec := { _root_.Go.OpenSpec.ofChange s with cond := some uptoSmall }

/-- 'hushkeep.Bounded', WHERE WHAT IT READS IS OF BULK AT MOST 1048576: true; the input reads as it did. -/
def boundedUptoRow : OpenClaim := { program := "ytcjhgbljhpflfab", sum := "24104edef0f085a1438d647b9a9752c6834fc593e50ae00f164c581c5892a40e", func := "hush/hushkeep.Bounded", spec := "bounded", apart := false, narrowed := true }
def BoundedUptoSaid : Prop := boundedUptoRow.holds Try.pinned (OpenSpec.upto boundedSpec)

/-- 'hushkeep.Alike', WHERE WHAT IT READS IS OF BULK AT MOST 1048576: true; the input reads as it did. -/
def alikeUptoRow : OpenClaim := { program := "ytcjhgbljhpflfab", sum := "24104edef0f085a1438d647b9a9752c6834fc593e50ae00f164c581c5892a40e", func := "hush/hushkeep.Alike", spec := "alike", apart := false, narrowed := true }
def AlikeUptoSaid : Prop := alikeUptoRow.holds Try.pinned (OpenSpec.upto alikeSpec)

/-- 'hushlaw.Bends', WHERE WHAT IT READS IS OF BULK AT MOST 1048576: true; the input reads as it did. -/
def bendsUptoRow : OpenClaim := { program := "ytcjhgbljhpflfab", sum := "24104edef0f085a1438d647b9a9752c6834fc593e50ae00f164c581c5892a40e", func := "hush/hushlaw.Bends", spec := "bends", recurses := true, apart := false, narrowed := true }
def BendsUptoSaid : Prop := bendsUptoRow.holds Try.pinned (OpenSpec.upto bendsSpec)

/-- 'hushlaw.Plains', WHERE WHAT IT READS IS OF BULK AT MOST 1048576: true; the input reads as it did. -/
def plainsUptoRow : OpenClaim := { program := "ytcjhgbljhpflfab", sum := "24104edef0f085a1438d647b9a9752c6834fc593e50ae00f164c581c5892a40e", func := "hush/hushlaw.Plains", spec := "plains", recurses := true, apart := false, narrowed := true }
def PlainsUptoSaid : Prop := plainsUptoRow.holds Try.pinned (OpenSpec.upto plainsSpec)

end Rows
end Go.Proofs.Ytcjhgbljhpflfab
