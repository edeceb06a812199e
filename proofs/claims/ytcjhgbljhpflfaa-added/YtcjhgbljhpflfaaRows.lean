/-
  No cell of these rows narrows 'for every input' (looked for: loops, veiled, ifaces, maps, wideKeys, modest, calm, conditions, laid).
  DERIVED. THE GIVEN ROWS OF THIS SEAT. 12 by the template 'for every input the law returns true; each argument reads behind the call as it read before'; 0 by the template 'total and deterministic' (their statements: YtcjhgbljhpflfaaTotals.lean).
  GIVEN WITH THE SEED: the statements are not yours to turn. If you find one false, say at which input.
  Laid BY PROGRAM, IN A SANDBOX (cutbox-rows.mjs): the forced cells as the released guide's own fill.sh prints them over the translation 4691cbda821010b2… (all of the seat's roots in one cut). By AI agents, Wed Nov 11 2026. No macro, syntax, notation, axiom, sorry.
-/
import Derived.Test.YtcjhgbljhpflfaaChecked
import GoSem.Claim
import GoSem.ClaimJoined
import GoSem.ClaimMapViews
import Derived.JoinedTies
import Derived.KernelRfl
namespace Go.Proofs.Ytcjhgbljhpflfaa
/- THE CELL 'sum', in the pinned program and in every row, IS THE sha256 OF THE DUMP (.gsa) THAT YtcjhgbljhpflfaaProg.lean LOADS. Nothing in Lean hashes anything: it is a label: what it is worth is what the hold of that sum in a sandbox is worth. -/
noncomputable def Try.pinned : Pinned := { name := "ytcjhgbljhpflfaa", sum := "4691cbda821010b271e1aba9a7a9c5f7ca952bd8b23791c40be1f4acb9ee4a4f", checked := Try.checked }
namespace Rows
def none {H : Type} : Left H := { results := [], args := [] }

/-- 'hushlaw.Params': WHATEVER THE INPUT: true; the input reads as it did. -/
def paramsSpec : ChangeSpec := { name := "params", fn := fun _ => fun
  | [d] => { results := [.lit (.bool true)], args := [d] }
  | _ => none }
def paramsRow : OpenClaim := { program := "ytcjhgbljhpflfaa", sum := "4691cbda821010b271e1aba9a7a9c5f7ca952bd8b23791c40be1f4acb9ee4a4f", func := "hush/hushlaw.Params", spec := "params", apart := false }
def ParamsSaid : Prop := paramsRow.holds Try.pinned (OpenSpec.ofChange paramsSpec)

/-- ITS FALSE NEIGHBOUR: 'it returns false'. Refute it at one input. -/
def paramsWrong : ChangeSpec := { name := "params", fn := fun _ => fun
  | [d] => { results := [.lit (.bool false)], args := [d] }
  | _ => none }
def ParamsWrongFalsely : Prop := paramsRow.holds Try.pinned (OpenSpec.ofChange paramsWrong)

/-- 'hushlaw.Slots': WHATEVER THE INPUT: true; the input reads as it did. -/
def slotsSpec : ChangeSpec := { name := "slots", fn := fun _ => fun
  | [d1, d2] => { results := [.lit (.bool true)], args := [d1, d2] }
  | _ => none }
def slotsRow : OpenClaim := { program := "ytcjhgbljhpflfaa", sum := "4691cbda821010b271e1aba9a7a9c5f7ca952bd8b23791c40be1f4acb9ee4a4f", func := "hush/hushlaw.Slots", spec := "slots", recurses := true, apart := false }
def SlotsSaid : Prop := slotsRow.holds Try.pinned (OpenSpec.ofChange slotsSpec)

/-- ITS FALSE NEIGHBOUR: 'it returns false'. Refute it at one input. -/
def slotsWrong : ChangeSpec := { name := "slots", fn := fun _ => fun
  | [d1, d2] => { results := [.lit (.bool false)], args := [d1, d2] }
  | _ => none }
def SlotsWrongFalsely : Prop := slotsRow.holds Try.pinned (OpenSpec.ofChange slotsWrong)

/-- 'hushlaw.Keys': WHATEVER THE INPUT: true; the input reads as it did. -/
def keysSpec : ChangeSpec := { name := "keys", fn := fun _ => fun
  | [d1, d2, d3] => { results := [.lit (.bool true)], args := [d1, d2, d3] }
  | _ => none }
def keysRow : OpenClaim := { program := "ytcjhgbljhpflfaa", sum := "4691cbda821010b271e1aba9a7a9c5f7ca952bd8b23791c40be1f4acb9ee4a4f", func := "hush/hushlaw.Keys", spec := "keys", recurses := true, apart := false }
def KeysSaid : Prop := keysRow.holds Try.pinned (OpenSpec.ofChange keysSpec)

/-- ITS FALSE NEIGHBOUR: 'it returns false'. Refute it at one input. -/
def keysWrong : ChangeSpec := { name := "keys", fn := fun _ => fun
  | [d1, d2, d3] => { results := [.lit (.bool false)], args := [d1, d2, d3] }
  | _ => none }
def KeysWrongFalsely : Prop := keysRow.holds Try.pinned (OpenSpec.ofChange keysWrong)

/-- 'hushlaw.Hides': WHATEVER THE INPUT: true; the input reads as it did. -/
def hidesSpec : ChangeSpec := { name := "hides", fn := fun _ => fun
  | [d1, d2, d3, d4] => { results := [.lit (.bool true)], args := [d1, d2, d3, d4] }
  | _ => none }
def hidesRow : OpenClaim := { program := "ytcjhgbljhpflfaa", sum := "4691cbda821010b271e1aba9a7a9c5f7ca952bd8b23791c40be1f4acb9ee4a4f", func := "hush/hushlaw.Hides", spec := "hides", recurses := true, apart := false }
def HidesSaid : Prop := hidesRow.holds Try.pinned (OpenSpec.ofChange hidesSpec)

/-- ITS FALSE NEIGHBOUR: 'it returns false'. Refute it at one input. -/
def hidesWrong : ChangeSpec := { name := "hides", fn := fun _ => fun
  | [d1, d2, d3, d4] => { results := [.lit (.bool false)], args := [d1, d2, d3, d4] }
  | _ => none }
def HidesWrongFalsely : Prop := hidesRow.holds Try.pinned (OpenSpec.ofChange hidesWrong)

/-- 'hushlaw.Opens': WHATEVER THE INPUT: true; the input reads as it did. -/
def opensSpec : ChangeSpec := { name := "opens", fn := fun _ => fun
  | [d1, d2, d3] => { results := [.lit (.bool true)], args := [d1, d2, d3] }
  | _ => none }
def opensRow : OpenClaim := { program := "ytcjhgbljhpflfaa", sum := "4691cbda821010b271e1aba9a7a9c5f7ca952bd8b23791c40be1f4acb9ee4a4f", func := "hush/hushlaw.Opens", spec := "opens", recurses := true, apart := false }
def OpensSaid : Prop := opensRow.holds Try.pinned (OpenSpec.ofChange opensSpec)

/-- ITS FALSE NEIGHBOUR: 'it returns false'. Refute it at one input. -/
def opensWrong : ChangeSpec := { name := "opens", fn := fun _ => fun
  | [d1, d2, d3] => { results := [.lit (.bool false)], args := [d1, d2, d3] }
  | _ => none }
def OpensWrongFalsely : Prop := opensRow.holds Try.pinned (OpenSpec.ofChange opensWrong)

/-- 'hushkeep.Opened': WHATEVER THE INPUT: true; the input reads as it did. -/
def openedSpec : ChangeSpec := { name := "opened", fn := fun _ => fun
  | [d1, d2, d3] => { results := [.lit (.bool true)], args := [d1, d2, d3] }
  | _ => none }
def openedRow : OpenClaim := { program := "ytcjhgbljhpflfaa", sum := "4691cbda821010b271e1aba9a7a9c5f7ca952bd8b23791c40be1f4acb9ee4a4f", func := "hush/hushkeep.Opened", spec := "opened", apart := false }
def OpenedSaid : Prop := openedRow.holds Try.pinned (OpenSpec.ofChange openedSpec)

/-- ITS FALSE NEIGHBOUR: 'it returns false'. Refute it at one input. -/
def openedWrong : ChangeSpec := { name := "opened", fn := fun _ => fun
  | [d1, d2, d3] => { results := [.lit (.bool false)], args := [d1, d2, d3] }
  | _ => none }
def OpenedWrongFalsely : Prop := openedRow.holds Try.pinned (OpenSpec.ofChange openedWrong)

/-- 'hushlaw.Sums': WHATEVER THE INPUT: true; the input reads as it did. -/
def sumsSpec : ChangeSpec := { name := "sums", fn := fun _ => fun
  | [d1, d2, d3, d4] => { results := [.lit (.bool true)], args := [d1, d2, d3, d4] }
  | _ => none }
def sumsRow : OpenClaim := { program := "ytcjhgbljhpflfaa", sum := "4691cbda821010b271e1aba9a7a9c5f7ca952bd8b23791c40be1f4acb9ee4a4f", func := "hush/hushlaw.Sums", spec := "sums", recurses := true, apart := false }
def SumsSaid : Prop := sumsRow.holds Try.pinned (OpenSpec.ofChange sumsSpec)

/-- ITS FALSE NEIGHBOUR: 'it returns false'. Refute it at one input. -/
def sumsWrong : ChangeSpec := { name := "sums", fn := fun _ => fun
  | [d1, d2, d3, d4] => { results := [.lit (.bool false)], args := [d1, d2, d3, d4] }
  | _ => none }
def SumsWrongFalsely : Prop := sumsRow.holds Try.pinned (OpenSpec.ofChange sumsWrong)

/-- 'hushlaw.Products': WHATEVER THE INPUT: true; the input reads as it did. -/
def productsSpec : ChangeSpec := { name := "products", fn := fun _ => fun
  | [d1, d2, d3] => { results := [.lit (.bool true)], args := [d1, d2, d3] }
  | _ => none }
def productsRow : OpenClaim := { program := "ytcjhgbljhpflfaa", sum := "4691cbda821010b271e1aba9a7a9c5f7ca952bd8b23791c40be1f4acb9ee4a4f", func := "hush/hushlaw.Products", spec := "products", recurses := true, apart := false }
def ProductsSaid : Prop := productsRow.holds Try.pinned (OpenSpec.ofChange productsSpec)

/-- ITS FALSE NEIGHBOUR: 'it returns false'. Refute it at one input. -/
def productsWrong : ChangeSpec := { name := "products", fn := fun _ => fun
  | [d1, d2, d3] => { results := [.lit (.bool false)], args := [d1, d2, d3] }
  | _ => none }
def ProductsWrongFalsely : Prop := productsRow.holds Try.pinned (OpenSpec.ofChange productsWrong)

/-- 'hushkeep.Added': WHATEVER THE INPUT: true; the input reads as it did. -/
def addedSpec : ChangeSpec := { name := "added", fn := fun _ => fun
  | [d1, d2, d3, d4, d5] => { results := [.lit (.bool true)], args := [d1, d2, d3, d4, d5] }
  | _ => none }
def addedRow : OpenClaim := { program := "ytcjhgbljhpflfaa", sum := "4691cbda821010b271e1aba9a7a9c5f7ca952bd8b23791c40be1f4acb9ee4a4f", func := "hush/hushkeep.Added", spec := "added", apart := false }
def AddedSaid : Prop := addedRow.holds Try.pinned (OpenSpec.ofChange addedSpec)

/-- ITS FALSE NEIGHBOUR: 'it returns false'. Refute it at one input. -/
def addedWrong : ChangeSpec := { name := "added", fn := fun _ => fun
  | [d1, d2, d3, d4, d5] => { results := [.lit (.bool false)], args := [d1, d2, d3, d4, d5] }
  | _ => none }
def AddedWrongFalsely : Prop := addedRow.holds Try.pinned (OpenSpec.ofChange addedWrong)

/-- 'hushkeep.Multiplied': WHATEVER THE INPUT: true; the input reads as it did. -/
def multipliedSpec : ChangeSpec := { name := "multiplied", fn := fun _ => fun
  | [d1, d2, d3, d4] => { results := [.lit (.bool true)], args := [d1, d2, d3, d4] }
  | _ => none }
def multipliedRow : OpenClaim := { program := "ytcjhgbljhpflfaa", sum := "4691cbda821010b271e1aba9a7a9c5f7ca952bd8b23791c40be1f4acb9ee4a4f", func := "hush/hushkeep.Multiplied", spec := "multiplied", apart := false }
def MultipliedSaid : Prop := multipliedRow.holds Try.pinned (OpenSpec.ofChange multipliedSpec)

/-- ITS FALSE NEIGHBOUR: 'it returns false'. Refute it at one input. -/
def multipliedWrong : ChangeSpec := { name := "multiplied", fn := fun _ => fun
  | [d1, d2, d3, d4] => { results := [.lit (.bool false)], args := [d1, d2, d3, d4] }
  | _ => none }
def MultipliedWrongFalsely : Prop := multipliedRow.holds Try.pinned (OpenSpec.ofChange multipliedWrong)

/-- 'hushlaw.Turns': WHATEVER THE INPUT: true; the input reads as it did. -/
def turnsSpec : ChangeSpec := { name := "turns", fn := fun _ => fun
  | [d1, d2, d3] => { results := [.lit (.bool true)], args := [d1, d2, d3] }
  | _ => none }
def turnsRow : OpenClaim := { program := "ytcjhgbljhpflfaa", sum := "4691cbda821010b271e1aba9a7a9c5f7ca952bd8b23791c40be1f4acb9ee4a4f", func := "hush/hushlaw.Turns", spec := "turns", recurses := true, apart := false }
def TurnsSaid : Prop := turnsRow.holds Try.pinned (OpenSpec.ofChange turnsSpec)

/-- ITS FALSE NEIGHBOUR: 'it returns false'. Refute it at one input. -/
def turnsWrong : ChangeSpec := { name := "turns", fn := fun _ => fun
  | [d1, d2, d3] => { results := [.lit (.bool false)], args := [d1, d2, d3] }
  | _ => none }
def TurnsWrongFalsely : Prop := turnsRow.holds Try.pinned (OpenSpec.ofChange turnsWrong)

/-- 'hushkeep.Turned': WHATEVER THE INPUT: true; the input reads as it did. -/
def turnedSpec : ChangeSpec := { name := "turned", fn := fun _ => fun
  | [d1, d2, d3, d4, d5] => { results := [.lit (.bool true)], args := [d1, d2, d3, d4, d5] }
  | _ => none }
def turnedRow : OpenClaim := { program := "ytcjhgbljhpflfaa", sum := "4691cbda821010b271e1aba9a7a9c5f7ca952bd8b23791c40be1f4acb9ee4a4f", func := "hush/hushkeep.Turned", spec := "turned", apart := false }
def TurnedSaid : Prop := turnedRow.holds Try.pinned (OpenSpec.ofChange turnedSpec)

/-- ITS FALSE NEIGHBOUR: 'it returns false'. Refute it at one input. -/
def turnedWrong : ChangeSpec := { name := "turned", fn := fun _ => fun
  | [d1, d2, d3, d4, d5] => { results := [.lit (.bool false)], args := [d1, d2, d3, d4, d5] }
  | _ => none }
def TurnedWrongFalsely : Prop := turnedRow.holds Try.pinned (OpenSpec.ofChange turnedWrong)

/- THE SECOND FORM. 'bulk': how many values and letters a reading holds, each counted each time it is reached (what is shared counts as often as it is met; a slice's spare places count too). A statement '..UptoSaid' is the law's where the arguments, and the package variables that the reading takes, are together of bulk at most 1048576: NARROWER than '..Said'. Prove '..Said' where nothing that the law and all that it calls make is longer than what came in: it says more and counts as full. Else prove '..UptoSaid'. A law counts once. -/
mutual
def uptoBulk {H : Type} : DataW H → Nat
  | .lit (.string bytes) => bytes.length + 1
  | .lit _ => 1
  | .nil => 1
  | .ptr d => uptoBulk d + 1
  | .slice elems spare => uptoBulkAll elems + uptoBulkAll spare + 1
  | .agg parts => uptoBulkAll parts + 1
  | .iface _ d => uptoBulk d + 1
  | .map entries => uptoBulkEntries entries + 1
  | .held _ => 1
def uptoBulkAll {H : Type} : List (DataW H) → Nat
  | [] => 0
  | d :: r => uptoBulk d + uptoBulkAll r
def uptoBulkEntries {H : Type} : List (Lit × DataW H) → Nat
  | [] => 0
  | x :: r => uptoBulkEntry x + uptoBulkEntries r
def uptoBulkEntry {H : Type} : Lit × DataW H → Nat
  | (.string bytes, d) => bytes.length + uptoBulk d + 1
  | (_, d) => uptoBulk d + 1
 end
def uptoSmall : (H : Type) → List (DataW H) → Bool := fun _ ds => decide (uptoBulkAll ds ≤ 1048576)
def OpenSpec.upto (s : _root_.Go.ChangeSpec) : _root_.Go.OpenSpec := { _root_.Go.OpenSpec.ofChange s with cond := some uptoSmall }

/-- 'hushlaw.Params', WHERE WHAT IT READS IS OF BULK AT MOST 1048576: true; the input reads as it did. -/
def paramsUptoRow : OpenClaim := { program := "ytcjhgbljhpflfaa", sum := "4691cbda821010b271e1aba9a7a9c5f7ca952bd8b23791c40be1f4acb9ee4a4f", func := "hush/hushlaw.Params", spec := "params", apart := false, narrowed := true }
def ParamsUptoSaid : Prop := paramsUptoRow.holds Try.pinned (OpenSpec.upto paramsSpec)

/-- 'hushlaw.Slots', WHERE WHAT IT READS IS OF BULK AT MOST 1048576: true; the input reads as it did. -/
def slotsUptoRow : OpenClaim := { program := "ytcjhgbljhpflfaa", sum := "4691cbda821010b271e1aba9a7a9c5f7ca952bd8b23791c40be1f4acb9ee4a4f", func := "hush/hushlaw.Slots", spec := "slots", recurses := true, apart := false, narrowed := true }
def SlotsUptoSaid : Prop := slotsUptoRow.holds Try.pinned (OpenSpec.upto slotsSpec)

/-- 'hushlaw.Keys', WHERE WHAT IT READS IS OF BULK AT MOST 1048576: true; the input reads as it did. -/
def keysUptoRow : OpenClaim := { program := "ytcjhgbljhpflfaa", sum := "4691cbda821010b271e1aba9a7a9c5f7ca952bd8b23791c40be1f4acb9ee4a4f", func := "hush/hushlaw.Keys", spec := "keys", recurses := true, apart := false, narrowed := true }
def KeysUptoSaid : Prop := keysUptoRow.holds Try.pinned (OpenSpec.upto keysSpec)

/-- 'hushlaw.Hides', WHERE WHAT IT READS IS OF BULK AT MOST 1048576: true; the input reads as it did. -/
def hidesUptoRow : OpenClaim := { program := "ytcjhgbljhpflfaa", sum := "4691cbda821010b271e1aba9a7a9c5f7ca952bd8b23791c40be1f4acb9ee4a4f", func := "hush/hushlaw.Hides", spec := "hides", recurses := true, apart := false, narrowed := true }
def HidesUptoSaid : Prop := hidesUptoRow.holds Try.pinned (OpenSpec.upto hidesSpec)

/-- 'hushlaw.Opens', WHERE WHAT IT READS IS OF BULK AT MOST 1048576: true; the input reads as it did. -/
def opensUptoRow : OpenClaim := { program := "ytcjhgbljhpflfaa", sum := "4691cbda821010b271e1aba9a7a9c5f7ca952bd8b23791c40be1f4acb9ee4a4f", func := "hush/hushlaw.Opens", spec := "opens", recurses := true, apart := false, narrowed := true }
def OpensUptoSaid : Prop := opensUptoRow.holds Try.pinned (OpenSpec.upto opensSpec)

/-- 'hushkeep.Opened', WHERE WHAT IT READS IS OF BULK AT MOST 1048576: true; the input reads as it did. -/
def openedUptoRow : OpenClaim := { program := "ytcjhgbljhpflfaa", sum := "4691cbda821010b271e1aba9a7a9c5f7ca952bd8b23791c40be1f4acb9ee4a4f", func := "hush/hushkeep.Opened", spec := "opened", apart := false, narrowed := true }
def OpenedUptoSaid : Prop := openedUptoRow.holds Try.pinned (OpenSpec.upto openedSpec)

/-- 'hushlaw.Sums', WHERE WHAT IT READS IS OF BULK AT MOST 1048576: true; the input reads as it did. -/
def sumsUptoRow : OpenClaim := { program := "ytcjhgbljhpflfaa", sum := "4691cbda821010b271e1aba9a7a9c5f7ca952bd8b23791c40be1f4acb9ee4a4f", func := "hush/hushlaw.Sums", spec := "sums", recurses := true, apart := false, narrowed := true }
def SumsUptoSaid : Prop := sumsUptoRow.holds Try.pinned (OpenSpec.upto sumsSpec)

/-- 'hushlaw.Products', WHERE WHAT IT READS IS OF BULK AT MOST 1048576: true; the input reads as it did. -/
def productsUptoRow : OpenClaim := { program := "ytcjhgbljhpflfaa", sum := "4691cbda821010b271e1aba9a7a9c5f7ca952bd8b23791c40be1f4acb9ee4a4f", func := "hush/hushlaw.Products", spec := "products", recurses := true, apart := false, narrowed := true }
def ProductsUptoSaid : Prop := productsUptoRow.holds Try.pinned (OpenSpec.upto productsSpec)

/-- 'hushkeep.Added', WHERE WHAT IT READS IS OF BULK AT MOST 1048576: true; the input reads as it did. -/
def addedUptoRow : OpenClaim := { program := "ytcjhgbljhpflfaa", sum := "4691cbda821010b271e1aba9a7a9c5f7ca952bd8b23791c40be1f4acb9ee4a4f", func := "hush/hushkeep.Added", spec := "added", apart := false, narrowed := true }
def AddedUptoSaid : Prop := addedUptoRow.holds Try.pinned (OpenSpec.upto addedSpec)

/-- 'hushkeep.Multiplied', WHERE WHAT IT READS IS OF BULK AT MOST 1048576: true; the input reads as it did. -/
def multipliedUptoRow : OpenClaim := { program := "ytcjhgbljhpflfaa", sum := "4691cbda821010b271e1aba9a7a9c5f7ca952bd8b23791c40be1f4acb9ee4a4f", func := "hush/hushkeep.Multiplied", spec := "multiplied", apart := false, narrowed := true }
def MultipliedUptoSaid : Prop := multipliedUptoRow.holds Try.pinned (OpenSpec.upto multipliedSpec)

/-- 'hushlaw.Turns', WHERE WHAT IT READS IS OF BULK AT MOST 1048576: true; the input reads as it did. -/
def turnsUptoRow : OpenClaim := { program := "ytcjhgbljhpflfaa", sum := "4691cbda821010b271e1aba9a7a9c5f7ca952bd8b23791c40be1f4acb9ee4a4f", func := "hush/hushlaw.Turns", spec := "turns", recurses := true, apart := false, narrowed := true }
def TurnsUptoSaid : Prop := turnsUptoRow.holds Try.pinned (OpenSpec.upto turnsSpec)

/-- 'hushkeep.Turned', WHERE WHAT IT READS IS OF BULK AT MOST 1048576: true; the input reads as it did. -/
def turnedUptoRow : OpenClaim := { program := "ytcjhgbljhpflfaa", sum := "4691cbda821010b271e1aba9a7a9c5f7ca952bd8b23791c40be1f4acb9ee4a4f", func := "hush/hushkeep.Turned", spec := "turned", apart := false, narrowed := true }
def TurnedUptoSaid : Prop := turnedUptoRow.holds Try.pinned (OpenSpec.upto turnedSpec)

end Rows
end Go.Proofs.Ytcjhgbljhpflfaa
