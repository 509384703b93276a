/- The walks of package log: what only reads; and New. -/
import Derived.Test.YtgioaapflilhhabLogM
import Derived.Test.YtgioaapflilhhabF1
namespace Go.Proofs.Ytgioaapflilhhab
open Go.RowKit

section
variable {w w' : World} {base g : Nat} {f : Option Nat} {es : List Ent}
end

end Go.Proofs.Ytgioaapflilhhab
