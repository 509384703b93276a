/-
  No cell of these rows narrows 'for every input' (looked for: loops, veiled, ifaces, maps, wideKeys, modest, calm, conditions, laid).
  DERIVED. THE GIVEN ROWS OF THIS SEAT. 7 by the template 'for every input the law returns true; each argument reads behind the call as it read before'; 0 by the template 'total and deterministic' (their statements: YtlggkeoihpcdiaaTotals.lean).
  GIVEN WITH THE SEED: the statements are not yours to turn. If you find one false, say at which input.
  Laid BY PROGRAM, IN A SANDBOX (cutbox-rows.mjs): the forced cells as the released guide's own fill.sh prints them over the translation 99b6b2f2168ece7b… (all of the seat's roots in one cut). By AI agents, Wed Nov 11 2026. No macro, syntax, notation, axiom, sorry.
-/
import Derived.Test.YtlggkeoihpcdiaaChecked
import GoSem.Claim
import GoSem.ClaimJoined
import GoSem.ClaimMapViews
import Derived.JoinedTies
import Derived.KernelRfl
namespace Go.Proofs.Ytlggkeoihpcdiaa
/- THE CELL 'sum', in the pinned program and in every row, IS THE sha256 OF THE DUMP (.gsa) THAT YtlggkeoihpcdiaaProg.lean LOADS. Nothing in Lean hashes anything: it is a label: what it is worth is what the hold of that sum in a sandbox is worth. -/
noncomputable def Try.pinned : Pinned := { name := "ytlggkeoihpcdiaa", sum := "99b6b2f2168ece7bbae93c367103030643ff01e003124a459102d75cfbc28ff6", checked := Try.checked }
namespace Rows
def none {H : Type} : Left H := { results := [], args := [] }

/-- 'kissinggatelaw06.HardPlays': WHATEVER THE INPUT: true; the input reads as it did. -/
def hardPlaysSpec : ChangeSpec := { name := "hardPlays", fn := fun _ => fun
  | [d1, d2] => { results := [.lit (.bool true)], args := [d1, d2] }
  | _ => none }
def hardPlaysRow : OpenClaim := { program := "ytlggkeoihpcdiaa", sum := "99b6b2f2168ece7bbae93c367103030643ff01e003124a459102d75cfbc28ff6", func := "kissinggate/kissinggatelaw06.HardPlays", spec := "hardPlays", apart := false }
def HardPlaysSaid : Prop := hardPlaysRow.holds Try.pinned (OpenSpec.ofChange hardPlaysSpec)

/-- ITS FALSE NEIGHBOUR: 'it returns false'. Refute it at one input. -/
def hardPlaysWrong : ChangeSpec := { name := "hardPlays", fn := fun _ => fun
  | [d1, d2] => { results := [.lit (.bool false)], args := [d1, d2] }
  | _ => none }
def HardPlaysWrongFalsely : Prop := hardPlaysRow.holds Try.pinned (OpenSpec.ofChange hardPlaysWrong)

/-- 'kissinggatelaw06.HardRecords': WHATEVER THE INPUT: true; the input reads as it did. -/
def hardRecordsSpec : ChangeSpec := { name := "hardRecords", fn := fun _ => fun
  | [d] => { results := [.lit (.bool true)], args := [d] }
  | _ => none }
def hardRecordsRow : OpenClaim := { program := "ytlggkeoihpcdiaa", sum := "99b6b2f2168ece7bbae93c367103030643ff01e003124a459102d75cfbc28ff6", func := "kissinggate/kissinggatelaw06.HardRecords", spec := "hardRecords", apart := false }
def HardRecordsSaid : Prop := hardRecordsRow.holds Try.pinned (OpenSpec.ofChange hardRecordsSpec)

/-- ITS FALSE NEIGHBOUR: 'it returns false'. Refute it at one input. -/
def hardRecordsWrong : ChangeSpec := { name := "hardRecords", fn := fun _ => fun
  | [d] => { results := [.lit (.bool false)], args := [d] }
  | _ => none }
def HardRecordsWrongFalsely : Prop := hardRecordsRow.holds Try.pinned (OpenSpec.ofChange hardRecordsWrong)

/-- 'kissinggatelaw06.HardCrash': WHATEVER THE INPUT: true; the input reads as it did. -/
def hardCrashSpec : ChangeSpec := { name := "hardCrash", fn := fun _ => fun
  | [d1, d2, d3, d4, d5] => { results := [.lit (.bool true)], args := [d1, d2, d3, d4, d5] }
  | _ => none }
def hardCrashRow : OpenClaim := { program := "ytlggkeoihpcdiaa", sum := "99b6b2f2168ece7bbae93c367103030643ff01e003124a459102d75cfbc28ff6", func := "kissinggate/kissinggatelaw06.HardCrash", spec := "hardCrash", apart := false }
def HardCrashSaid : Prop := hardCrashRow.holds Try.pinned (OpenSpec.ofChange hardCrashSpec)

/-- ITS FALSE NEIGHBOUR: 'it returns false'. Refute it at one input. -/
def hardCrashWrong : ChangeSpec := { name := "hardCrash", fn := fun _ => fun
  | [d1, d2, d3, d4, d5] => { results := [.lit (.bool false)], args := [d1, d2, d3, d4, d5] }
  | _ => none }
def HardCrashWrongFalsely : Prop := hardCrashRow.holds Try.pinned (OpenSpec.ofChange hardCrashWrong)

/-- 'kissinggatelaw08.RaftRaw': WHATEVER THE INPUT: true; the input reads as it did. -/
def raftRawSpec : ChangeSpec := { name := "raftRaw", fn := fun _ => fun
  | [d1, d2, d3, d4, d5] => { results := [.lit (.bool true)], args := [d1, d2, d3, d4, d5] }
  | _ => none }
def raftRawRow : OpenClaim := { program := "ytlggkeoihpcdiaa", sum := "99b6b2f2168ece7bbae93c367103030643ff01e003124a459102d75cfbc28ff6", func := "kissinggate/kissinggatelaw08.RaftRaw", spec := "raftRaw", recurses := true, apart := false }
def RaftRawSaid : Prop := raftRawRow.holds Try.pinned (OpenSpec.ofChange raftRawSpec)

/-- ITS FALSE NEIGHBOUR: 'it returns false'. Refute it at one input. -/
def raftRawWrong : ChangeSpec := { name := "raftRaw", fn := fun _ => fun
  | [d1, d2, d3, d4, d5] => { results := [.lit (.bool false)], args := [d1, d2, d3, d4, d5] }
  | _ => none }
def RaftRawWrongFalsely : Prop := raftRawRow.holds Try.pinned (OpenSpec.ofChange raftRawWrong)

/-- 'kissinggatelaw08.RaftAlone': WHATEVER THE INPUT: true; the input reads as it did. -/
def raftAloneSpec : ChangeSpec := { name := "raftAlone", fn := fun _ => fun
  | [d1, d2, d3] => { results := [.lit (.bool true)], args := [d1, d2, d3] }
  | _ => none }
def raftAloneRow : OpenClaim := { program := "ytlggkeoihpcdiaa", sum := "99b6b2f2168ece7bbae93c367103030643ff01e003124a459102d75cfbc28ff6", func := "kissinggate/kissinggatelaw08.RaftAlone", spec := "raftAlone", recurses := true, apart := false }
def RaftAloneSaid : Prop := raftAloneRow.holds Try.pinned (OpenSpec.ofChange raftAloneSpec)

/-- ITS FALSE NEIGHBOUR: 'it returns false'. Refute it at one input. -/
def raftAloneWrong : ChangeSpec := { name := "raftAlone", fn := fun _ => fun
  | [d1, d2, d3] => { results := [.lit (.bool false)], args := [d1, d2, d3] }
  | _ => none }
def RaftAloneWrongFalsely : Prop := raftAloneRow.holds Try.pinned (OpenSpec.ofChange raftAloneWrong)

/-- 'kissinggatelaw08.RaftVotes': WHATEVER THE INPUT: true; the input reads as it did. -/
def raftVotesSpec : ChangeSpec := { name := "raftVotes", fn := fun _ => fun
  | [d1, d2] => { results := [.lit (.bool true)], args := [d1, d2] }
  | _ => none }
def raftVotesRow : OpenClaim := { program := "ytlggkeoihpcdiaa", sum := "99b6b2f2168ece7bbae93c367103030643ff01e003124a459102d75cfbc28ff6", func := "kissinggate/kissinggatelaw08.RaftVotes", spec := "raftVotes", recurses := true, apart := false }
def RaftVotesSaid : Prop := raftVotesRow.holds Try.pinned (OpenSpec.ofChange raftVotesSpec)

/-- ITS FALSE NEIGHBOUR: 'it returns false'. Refute it at one input. -/
def raftVotesWrong : ChangeSpec := { name := "raftVotes", fn := fun _ => fun
  | [d1, d2] => { results := [.lit (.bool false)], args := [d1, d2] }
  | _ => none }
def RaftVotesWrongFalsely : Prop := raftVotesRow.holds Try.pinned (OpenSpec.ofChange raftVotesWrong)

/-- 'kissinggatelaw08.RaftLeads': WHATEVER THE INPUT: true; the input reads as it did. -/
def raftLeadsSpec : ChangeSpec := { name := "raftLeads", fn := fun _ => fun
  | [d1, d2, d3] => { results := [.lit (.bool true)], args := [d1, d2, d3] }
  | _ => none }
def raftLeadsRow : OpenClaim := { program := "ytlggkeoihpcdiaa", sum := "99b6b2f2168ece7bbae93c367103030643ff01e003124a459102d75cfbc28ff6", func := "kissinggate/kissinggatelaw08.RaftLeads", spec := "raftLeads", recurses := true, apart := false }
def RaftLeadsSaid : Prop := raftLeadsRow.holds Try.pinned (OpenSpec.ofChange raftLeadsSpec)

/-- ITS FALSE NEIGHBOUR: 'it returns false'. Refute it at one input. -/
def raftLeadsWrong : ChangeSpec := { name := "raftLeads", fn := fun _ => fun
  | [d1, d2, d3] => { results := [.lit (.bool false)], args := [d1, d2, d3] }
  | _ => none }
def RaftLeadsWrongFalsely : Prop := raftLeadsRow.holds Try.pinned (OpenSpec.ofChange raftLeadsWrong)

/- THE SECOND FORM. 'bulk': how many values and letters a reading holds, each counted each time it is reached (what is shared counts as often as it is met; a slice's spare places count too). A statement '..UptoSaid' is the law's where the arguments, and the package variables that the reading takes, are together of bulk at most 1048576: NARROWER than '..Said'. Prove '..Said' where nothing that the law and all that it calls make is longer than what came in: it says more and counts as full. Else prove '..UptoSaid'. A law counts once. -/
mutual
def uptoBulk {H : Type} : DataW H → Nat
  | .lit (.string bytes) => bytes.length + 1
  | .lit _ => 1
  | .nil => 1
  | .ptr d => uptoBulk d + 1
  | .slice elems spare => uptoBulkAll elems + uptoBulkAll spare + 1
  | .agg parts => uptoBulkAll parts + 1
  | .iface _ d => uptoBulk d + 1
  | .map entries => uptoBulkEntries entries + 1
  | .held _ => 1
def uptoBulkAll {H : Type} : List (DataW H) → Nat
  | [] => 0
  | d :: r => uptoBulk d + uptoBulkAll r
def uptoBulkEntries {H : Type} : List (Lit × DataW H) → Nat
  | [] => 0
  | x :: r => uptoBulkEntry x + uptoBulkEntries r
def uptoBulkEntry {H : Type} : Lit × DataW H → Nat
  | (.string bytes, d) => bytes.length + uptoBulk d + 1
  | (_, d) => uptoBulk d + 1
 end
def uptoSmall : (H : Type) → List (DataW H) → Bool := fun _ ds => decide (uptoBulkAll ds ≤ 1048576)
def OpenSpec.upto (s : _root_.Go.ChangeSpec) : _root_.Go.OpenSpec := { _root_.Go.OpenSpec.ofChange s with cond := some uptoSmall }

/-- 'kissinggatelaw06.HardPlays', WHERE WHAT IT READS IS OF BULK AT MOST 1048576: true; the input reads as it did. -/
def hardPlaysUptoRow : OpenClaim := { program := "ytlggkeoihpcdiaa", sum := "99b6b2f2168ece7bbae93c367103030643ff01e003124a459102d75cfbc28ff6", func := "kissinggate/kissinggatelaw06.HardPlays", spec := "hardPlays", apart := false, narrowed := true }
def HardPlaysUptoSaid : Prop := hardPlaysUptoRow.holds Try.pinned (OpenSpec.upto hardPlaysSpec)

/-- 'kissinggatelaw06.HardRecords', WHERE WHAT IT READS IS OF BULK AT MOST 1048576: true; the input reads as it did. -/
def hardRecordsUptoRow : OpenClaim := { program := "ytlggkeoihpcdiaa", sum := "99b6b2f2168ece7bbae93c367103030643ff01e003124a459102d75cfbc28ff6", func := "kissinggate/kissinggatelaw06.HardRecords", spec := "hardRecords", apart := false, narrowed := true }
def HardRecordsUptoSaid : Prop := hardRecordsUptoRow.holds Try.pinned (OpenSpec.upto hardRecordsSpec)

/-- 'kissinggatelaw06.HardCrash', WHERE WHAT IT READS IS OF BULK AT MOST 1048576: true; the input reads as it did. -/
def hardCrashUptoRow : OpenClaim := { program := "ytlggkeoihpcdiaa", sum := "99b6b2f2168ece7bbae93c367103030643ff01e003124a459102d75cfbc28ff6", func := "kissinggate/kissinggatelaw06.HardCrash", spec := "hardCrash", apart := false, narrowed := true }
def HardCrashUptoSaid : Prop := hardCrashUptoRow.holds Try.pinned (OpenSpec.upto hardCrashSpec)

/-- 'kissinggatelaw08.RaftRaw', WHERE WHAT IT READS IS OF BULK AT MOST 1048576: true; the input reads as it did. -/
def raftRawUptoRow : OpenClaim := { program := "ytlggkeoihpcdiaa", sum := "99b6b2f2168ece7bbae93c367103030643ff01e003124a459102d75cfbc28ff6", func := "kissinggate/kissinggatelaw08.RaftRaw", spec := "raftRaw", recurses := true, apart := false, narrowed := true }
def RaftRawUptoSaid : Prop := raftRawUptoRow.holds Try.pinned (OpenSpec.upto raftRawSpec)

/-- 'kissinggatelaw08.RaftAlone', WHERE WHAT IT READS IS OF BULK AT MOST 1048576: true; the input reads as it did. -/
def raftAloneUptoRow : OpenClaim := { program := "ytlggkeoihpcdiaa", sum := "99b6b2f2168ece7bbae93c367103030643ff01e003124a459102d75cfbc28ff6", func := "kissinggate/kissinggatelaw08.RaftAlone", spec := "raftAlone", recurses := true, apart := false, narrowed := true }
def RaftAloneUptoSaid : Prop := raftAloneUptoRow.holds Try.pinned (OpenSpec.upto raftAloneSpec)

/-- 'kissinggatelaw08.RaftVotes', WHERE WHAT IT READS IS OF BULK AT MOST 1048576: true; the input reads as it did. -/
def raftVotesUptoRow : OpenClaim := { program := "ytlggkeoihpcdiaa", sum := "99b6b2f2168ece7bbae93c367103030643ff01e003124a459102d75cfbc28ff6", func := "kissinggate/kissinggatelaw08.RaftVotes", spec := "raftVotes", recurses := true, apart := false, narrowed := true }
def RaftVotesUptoSaid : Prop := raftVotesUptoRow.holds Try.pinned (OpenSpec.upto raftVotesSpec)

/-- 'kissinggatelaw08.RaftLeads', WHERE WHAT IT READS IS OF BULK AT MOST 1048576: true; the input reads as it did. -/
def raftLeadsUptoRow : OpenClaim := { program := "ytlggkeoihpcdiaa", sum := "99b6b2f2168ece7bbae93c367103030643ff01e003124a459102d75cfbc28ff6", func := "kissinggate/kissinggatelaw08.RaftLeads", spec := "raftLeads", recurses := true, apart := false, narrowed := true }
def RaftLeadsUptoSaid : Prop := raftLeadsUptoRow.holds Try.pinned (OpenSpec.upto raftLeadsSpec)

end Rows
end Go.Proofs.Ytlggkeoihpcdiaa
