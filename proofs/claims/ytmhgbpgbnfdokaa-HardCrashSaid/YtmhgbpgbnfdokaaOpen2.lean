/- How an argument that is a slice of bytes reads, with its size. -/
import Derived.Test.YtmhgbpgbnfdokaaW1
import Derived.Test.YtmhgbpgbnfdokaaOpen
import Derived.SizedLaws
namespace Go.Proofs.Ytmhgbpgbnfdokaa
open Go.RowKit Go.ChangeShapes Go.WideShapes Go.ChangeAt Go.Deep

theorem u8_cells' : Try.prog.cellsOf 5 = 1 := by kernel_rfl
theorem u8_bytes' : Try.prog.bytesOf 5 = 1 := by kernel_rfl
section
variable {H : Type} {enc : TypeId × Value → H} {w : World} {base : Nat} {spare : Nat → Bool} {held : Bool}
theorem open_sized {fuel : Nat} {a : Option Addr} {len cap : Nat} {d : DataW H} {ps : List MemPlace} (h : DataW.trod enc Try.prog w base spare held fuel 27 (Value.slice a len cap).cells.toList = some (d, ps)) (hsz : ∀ n ∈ d.weights Try.prog 27, n ≤ reachBytes) :
    len ≤ cap ∧ cap ≤ maxLen ∧ len ≤ 140737488351232 ∧ ∃ l : List UInt8, Sees w w.heap.size a len (cbs l) := by
  obtain ⟨h1, h2, l, h3⟩ := open_bytes Try.underlying27 Try.underlying5 u8_cells' h
  refine ⟨h1, h2, ?_, l, h3⟩
  rcases open_ints Try.underlying27 Try.underlying5 u8_cells' h with ⟨hcs, _⟩ | ⟨x, l', c, zs, hcs, _, hl, hm, hz, hx, _⟩
  · simp [Value.cells] at hcs
    omega
  · simp [Value.cells] at hcs
    obtain ⟨rfl, rfl, rfl⟩ := hcs
    injection hx with hx1 hx2
    subst hx1
    have := hsz (((lits .u8 (zs.take len)).length + (lits .u8 (zs.drop len)).length) * Try.prog.bytesOf 5) (by simp only [DataW.weights, Try.underlying27]; exact List.mem_cons_self)
    rw [u8_bytes'] at this
    simp only [lits, List.length_map, List.length_take, List.length_drop, reachBytes] at this
    have hle : len ≤ zs.length := by rw [hz]; split <;> omega
    omega
end
end Go.Proofs.Ytmhgbpgbnfdokaa
