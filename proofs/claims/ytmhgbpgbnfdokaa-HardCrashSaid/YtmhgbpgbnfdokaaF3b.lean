/- The walk of the document's own Take (kissinggateref03). -/
import Derived.Test.YtmhgbpgbnfdokaaF3
namespace Go.Proofs.Ytmhgbpgbnfdokaa
open Go.RowKit

end Go.Proofs.Ytmhgbpgbnfdokaa
