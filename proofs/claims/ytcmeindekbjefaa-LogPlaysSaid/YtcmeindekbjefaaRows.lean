/-
  No cell of these rows narrows 'for every input' (looked for: loops, veiled, ifaces, maps, wideKeys, modest, calm, conditions, laid).
  DERIVED. THE GIVEN ROWS OF THIS SEAT. 6 by the template 'for every input the law returns true; each argument reads behind the call as it read before'; 0 by the template 'total and deterministic' (their statements: YtcmeindekbjefaaTotals.lean).
  GIVEN WITH THE SEED: the statements are not yours to turn. If you find one false, say at which input.
  Laid BY PROGRAM, IN A SANDBOX (cutbox-rows.mjs): the forced cells as the released guide's own fill.sh prints them over the translation 0e422d89d17eac5e… (all of the seat's roots in one cut). By AI agents, Wed Nov 11 2026. No macro, syntax, notation, axiom, sorry.
-/
import Derived.Test.YtcmeindekbjefaaChecked
import GoSem.Claim
import GoSem.ClaimJoined
import GoSem.ClaimMapViews
import Derived.JoinedTies
import Derived.KernelRfl
namespace Go.Proofs.Ytcmeindekbjefaa
/- THE CELL 'sum', in the pinned program and in every row, IS THE sha256 OF THE DUMP (.gsa) THAT YtcmeindekbjefaaProg.lean LOADS. Nothing in Lean hashes anything: it is a label: what it is worth is what the hold of that sum in a sandbox is worth. -/
noncomputable def Try.pinned : Pinned := { name := "ytcmeindekbjefaa", sum := "0e422d89d17eac5e28bd1204d9f56bb2496baf3ceb20467f241fa277c34d29a0", checked := Try.checked }
namespace Rows
def none {H : Type} : Left H := { results := [], args := [] }

/-- 'kissinggatelaw06.HardPlays': WHATEVER THE INPUT: true; the input reads as it did. -/
def hardPlaysSpec : ChangeSpec := { name := "hardPlays", fn := fun _ => fun
  | [d1, d2] => { results := [.lit (.bool true)], args := [d1, d2] }
  | _ => none }
def hardPlaysRow : OpenClaim := { program := "ytcmeindekbjefaa", sum := "0e422d89d17eac5e28bd1204d9f56bb2496baf3ceb20467f241fa277c34d29a0", func := "kissinggate/kissinggatelaw06.HardPlays", spec := "hardPlays", apart := false }
def HardPlaysSaid : Prop := hardPlaysRow.holds Try.pinned (OpenSpec.ofChange hardPlaysSpec)

/-- ITS FALSE NEIGHBOUR: 'it returns false'. Refute it at one input. -/
def hardPlaysWrong : ChangeSpec := { name := "hardPlays", fn := fun _ => fun
  | [d1, d2] => { results := [.lit (.bool false)], args := [d1, d2] }
  | _ => none }
def HardPlaysWrongFalsely : Prop := hardPlaysRow.holds Try.pinned (OpenSpec.ofChange hardPlaysWrong)

/-- 'kissinggatelaw06.HardRecords': WHATEVER THE INPUT: true; the input reads as it did. -/
def hardRecordsSpec : ChangeSpec := { name := "hardRecords", fn := fun _ => fun
  | [d] => { results := [.lit (.bool true)], args := [d] }
  | _ => none }
def hardRecordsRow : OpenClaim := { program := "ytcmeindekbjefaa", sum := "0e422d89d17eac5e28bd1204d9f56bb2496baf3ceb20467f241fa277c34d29a0", func := "kissinggate/kissinggatelaw06.HardRecords", spec := "hardRecords", apart := false }
def HardRecordsSaid : Prop := hardRecordsRow.holds Try.pinned (OpenSpec.ofChange hardRecordsSpec)

/-- ITS FALSE NEIGHBOUR: 'it returns false'. Refute it at one input. -/
def hardRecordsWrong : ChangeSpec := { name := "hardRecords", fn := fun _ => fun
  | [d] => { results := [.lit (.bool false)], args := [d] }
  | _ => none }
def HardRecordsWrongFalsely : Prop := hardRecordsRow.holds Try.pinned (OpenSpec.ofChange hardRecordsWrong)

/-- 'kissinggatelaw06.HardCrash': WHATEVER THE INPUT: true; the input reads as it did. -/
def hardCrashSpec : ChangeSpec := { name := "hardCrash", fn := fun _ => fun
  | [d1, d2, d3, d4, d5] => { results := [.lit (.bool true)], args := [d1, d2, d3, d4, d5] }
  | _ => none }
def hardCrashRow : OpenClaim := { program := "ytcmeindekbjefaa", sum := "0e422d89d17eac5e28bd1204d9f56bb2496baf3ceb20467f241fa277c34d29a0", func := "kissinggate/kissinggatelaw06.HardCrash", spec := "hardCrash", apart := false }
def HardCrashSaid : Prop := hardCrashRow.holds Try.pinned (OpenSpec.ofChange hardCrashSpec)

/-- ITS FALSE NEIGHBOUR: 'it returns false'. Refute it at one input. -/
def hardCrashWrong : ChangeSpec := { name := "hardCrash", fn := fun _ => fun
  | [d1, d2, d3, d4, d5] => { results := [.lit (.bool false)], args := [d1, d2, d3, d4, d5] }
  | _ => none }
def HardCrashWrongFalsely : Prop := hardCrashRow.holds Try.pinned (OpenSpec.ofChange hardCrashWrong)

/-- 'kissinggatelaw07.LogPlays': WHATEVER THE INPUT: true; the input reads as it did. -/
def logPlaysSpec : ChangeSpec := { name := "logPlays", fn := fun _ => fun
  | [d1, d2, d3, d4] => { results := [.lit (.bool true)], args := [d1, d2, d3, d4] }
  | _ => none }
def logPlaysRow : OpenClaim := { program := "ytcmeindekbjefaa", sum := "0e422d89d17eac5e28bd1204d9f56bb2496baf3ceb20467f241fa277c34d29a0", func := "kissinggate/kissinggatelaw07.LogPlays", spec := "logPlays", apart := false }
def LogPlaysSaid : Prop := logPlaysRow.holds Try.pinned (OpenSpec.ofChange logPlaysSpec)

/-- ITS FALSE NEIGHBOUR: 'it returns false'. Refute it at one input. -/
def logPlaysWrong : ChangeSpec := { name := "logPlays", fn := fun _ => fun
  | [d1, d2, d3, d4] => { results := [.lit (.bool false)], args := [d1, d2, d3, d4] }
  | _ => none }
def LogPlaysWrongFalsely : Prop := logPlaysRow.holds Try.pinned (OpenSpec.ofChange logPlaysWrong)

/-- 'kissinggatelaw07.LogFull': WHATEVER THE INPUT: true; the input reads as it did. -/
def logFullSpec : ChangeSpec := { name := "logFull", fn := fun _ => fun
  | [d1, d2] => { results := [.lit (.bool true)], args := [d1, d2] }
  | _ => none }
def logFullRow : OpenClaim := { program := "ytcmeindekbjefaa", sum := "0e422d89d17eac5e28bd1204d9f56bb2496baf3ceb20467f241fa277c34d29a0", func := "kissinggate/kissinggatelaw07.LogFull", spec := "logFull", apart := false }
def LogFullSaid : Prop := logFullRow.holds Try.pinned (OpenSpec.ofChange logFullSpec)

/-- ITS FALSE NEIGHBOUR: 'it returns false'. Refute it at one input. -/
def logFullWrong : ChangeSpec := { name := "logFull", fn := fun _ => fun
  | [d1, d2] => { results := [.lit (.bool false)], args := [d1, d2] }
  | _ => none }
def LogFullWrongFalsely : Prop := logFullRow.holds Try.pinned (OpenSpec.ofChange logFullWrong)

/-- 'kissinggatelaw07.LogTwice': WHATEVER THE INPUT: true; the input reads as it did. -/
def logTwiceSpec : ChangeSpec := { name := "logTwice", fn := fun _ => fun
  | [d1, d2] => { results := [.lit (.bool true)], args := [d1, d2] }
  | _ => none }
def logTwiceRow : OpenClaim := { program := "ytcmeindekbjefaa", sum := "0e422d89d17eac5e28bd1204d9f56bb2496baf3ceb20467f241fa277c34d29a0", func := "kissinggate/kissinggatelaw07.LogTwice", spec := "logTwice", apart := false }
def LogTwiceSaid : Prop := logTwiceRow.holds Try.pinned (OpenSpec.ofChange logTwiceSpec)

/-- ITS FALSE NEIGHBOUR: 'it returns false'. Refute it at one input. -/
def logTwiceWrong : ChangeSpec := { name := "logTwice", fn := fun _ => fun
  | [d1, d2] => { results := [.lit (.bool false)], args := [d1, d2] }
  | _ => none }
def LogTwiceWrongFalsely : Prop := logTwiceRow.holds Try.pinned (OpenSpec.ofChange logTwiceWrong)

/- THE SECOND FORM. 'bulk': how many values and letters a reading holds, each counted each time it is reached (what is shared counts as often as it is met; a slice's spare places count too). A statement '..UptoSaid' is the law's where the arguments, and the package variables that the reading takes, are together of bulk at most 1048576: NARROWER than '..Said'. Prove '..Said' where nothing that the law and all that it calls make is longer than what came in: it says more and counts as full. Else prove '..UptoSaid'. A law counts once. -/
mutual
def uptoBulk {H : Type} : DataW H → Nat
  | .lit (.string bytes) => bytes.length + 1
  | .lit _ => 1
  | .nil => 1
  | .ptr d => uptoBulk d + 1
  | .slice elems spare => uptoBulkAll elems + uptoBulkAll spare + 1
  | .agg parts => uptoBulkAll parts + 1
  | .iface _ d => uptoBulk d + 1
  | .map entries => uptoBulkEntries entries + 1
  | .held _ => 1
def uptoBulkAll {H : Type} : List (DataW H) → Nat
  | [] => 0
  | d :: r => uptoBulk d + uptoBulkAll r
def uptoBulkEntries {H : Type} : List (Lit × DataW H) → Nat
  | [] => 0
  | x :: r => uptoBulkEntry x + uptoBulkEntries r
def uptoBulkEntry {H : Type} : Lit × DataW H → Nat
  | (.string bytes, d) => bytes.length + uptoBulk d + 1
  | (_, d) => uptoBulk d + 1
 end
def uptoSmall : (H : Type) → List (DataW H) → Bool := fun _ ds => decide (uptoBulkAll ds ≤ 1048576)
def OpenSpec.upto (s : _root_.Go.ChangeSpec) : _root_.Go.OpenSpec := { _root_.Go.OpenSpec.ofChange s with cond := some uptoSmall }

/-- 'kissinggatelaw06.HardPlays', WHERE WHAT IT READS IS OF BULK AT MOST 1048576: true; the input reads as it did. -/
def hardPlaysUptoRow : OpenClaim := { program := "ytcmeindekbjefaa", sum := "0e422d89d17eac5e28bd1204d9f56bb2496baf3ceb20467f241fa277c34d29a0", func := "kissinggate/kissinggatelaw06.HardPlays", spec := "hardPlays", apart := false, narrowed := true }
def HardPlaysUptoSaid : Prop := hardPlaysUptoRow.holds Try.pinned (OpenSpec.upto hardPlaysSpec)

/-- 'kissinggatelaw06.HardRecords', WHERE WHAT IT READS IS OF BULK AT MOST 1048576: true; the input reads as it did. -/
def hardRecordsUptoRow : OpenClaim := { program := "ytcmeindekbjefaa", sum := "0e422d89d17eac5e28bd1204d9f56bb2496baf3ceb20467f241fa277c34d29a0", func := "kissinggate/kissinggatelaw06.HardRecords", spec := "hardRecords", apart := false, narrowed := true }
def HardRecordsUptoSaid : Prop := hardRecordsUptoRow.holds Try.pinned (OpenSpec.upto hardRecordsSpec)

/-- 'kissinggatelaw06.HardCrash', WHERE WHAT IT READS IS OF BULK AT MOST 1048576: true; the input reads as it did. -/
def hardCrashUptoRow : OpenClaim := { program := "ytcmeindekbjefaa", sum := "0e422d89d17eac5e28bd1204d9f56bb2496baf3ceb20467f241fa277c34d29a0", func := "kissinggate/kissinggatelaw06.HardCrash", spec := "hardCrash", apart := false, narrowed := true }
def HardCrashUptoSaid : Prop := hardCrashUptoRow.holds Try.pinned (OpenSpec.upto hardCrashSpec)

/-- 'kissinggatelaw07.LogPlays', WHERE WHAT IT READS IS OF BULK AT MOST 1048576: true; the input reads as it did. -/
def logPlaysUptoRow : OpenClaim := { program := "ytcmeindekbjefaa", sum := "0e422d89d17eac5e28bd1204d9f56bb2496baf3ceb20467f241fa277c34d29a0", func := "kissinggate/kissinggatelaw07.LogPlays", spec := "logPlays", apart := false, narrowed := true }
def LogPlaysUptoSaid : Prop := logPlaysUptoRow.holds Try.pinned (OpenSpec.upto logPlaysSpec)

/-- 'kissinggatelaw07.LogFull', WHERE WHAT IT READS IS OF BULK AT MOST 1048576: true; the input reads as it did. -/
def logFullUptoRow : OpenClaim := { program := "ytcmeindekbjefaa", sum := "0e422d89d17eac5e28bd1204d9f56bb2496baf3ceb20467f241fa277c34d29a0", func := "kissinggate/kissinggatelaw07.LogFull", spec := "logFull", apart := false, narrowed := true }
def LogFullUptoSaid : Prop := logFullUptoRow.holds Try.pinned (OpenSpec.upto logFullSpec)

/-- 'kissinggatelaw07.LogTwice', WHERE WHAT IT READS IS OF BULK AT MOST 1048576: true; the input reads as it did. -/
def logTwiceUptoRow : OpenClaim := { program := "ytcmeindekbjefaa", sum := "0e422d89d17eac5e28bd1204d9f56bb2496baf3ceb20467f241fa277c34d29a0", func := "kissinggate/kissinggatelaw07.LogTwice", spec := "logTwice", apart := false, narrowed := true }
def LogTwiceUptoSaid : Prop := logTwiceUptoRow.holds Try.pinned (OpenSpec.upto logTwiceSpec)

end Rows
end Go.Proofs.Ytcmeindekbjefaa
