/- The walks of the document's own Read (kissinggateref05), and of the statements' comparison of rows of records. -/
import Derived.Test.YtmhgbpgbnfdokaaRec3
namespace Go.Proofs.Ytmhgbpgbnfdokaa
open Go.RowKit

theorem tok_conv (w : World) (B : Nat) (A : Option Addr) (n c : Nat) (l : List UInt8) (h : Sees w B A n (cbs l)) : (convert 27 9 (.slice A n c)).run Try.prog w = .ok (.string (tok l)) w := conv_sees' w B A n c l h

/-- what the document's own Read answers -/
def TokRet (w : World) (r : List RecM × Nat × Nat) (e : Ending) (w' : World) : Prop :=
  ∃ A c, e = .returned (.tuple #[.slice A r.1.length c, .int .i64 (r.2.1 : Int), .int .i64 (r.2.2 : Int)]) ∧ w'.ownsRow w.heap.size 46 2 (.slice A r.1.length c) r.1.length (tcs r.1) ∧ Below w.heap.size w w'
theorem TokRet.of {w w' : World} {r : List RecM × Nat × Nat} {rs : List RecM} {k f : Nat} {A : Option Addr} {c : Nat} (h : r = (rs, k, f)) (ho : w'.ownsRow w.heap.size 46 2 (.slice A rs.length c) rs.length (tcs rs)) (hb : Below w.heap.size w w') :
    TokRet w r (.returned (.tuple #[.slice A rs.length c, .int .i64 (k : Int), .int .i64 (f : Int)])) w' := by
  subst h
  exact ⟨A, c, rfl, ho, hb⟩

end Go.Proofs.Ytmhgbpgbnfdokaa
