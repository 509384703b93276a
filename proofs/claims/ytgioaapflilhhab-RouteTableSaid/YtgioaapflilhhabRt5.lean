/- Package route: Split and Join of no map. -/
import Derived.Test.YtgioaapflilhhabRt4
namespace Go.Proofs.Ytgioaapflilhhab
open Go.RowKit
set_option maxHeartbeats 400000 in
theorem split_nil (key : ByteArray) (w : World) :
    Calls Try.prog 17 #[.pointer none, .string key] w fun e w' => e = .returned (.tuple #[.pointer none, .int .i64 1]) ∧ w' = w := by
  go_enter Try.func17, Try.ntmps17
  go_wp2_with fail
  go_ret2
  exact ⟨rfl, rfl⟩
end Go.Proofs.Ytgioaapflilhhab
