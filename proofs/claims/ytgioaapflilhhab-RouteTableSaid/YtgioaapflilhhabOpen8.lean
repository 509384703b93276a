/- How an argument that is a slice of strings reads. -/
import Derived.Test.YtgioaapflilhhabOpen7
import Derived.Deep.Slices
namespace Go.Proofs.Ytgioaapflilhhab
open Go.RowKit Go.ChangeShapes Go.WideShapes Go.ChangeAt Go.Deep

theorem sl_str : Try.prog.underlying 22 = some (.slice 9) := Try.underlying22
section
variable {H : Type} {enc : TypeId × Value → H} {w : World} {base : Nat} {spare : Nat → Bool} {held : Bool}
theorem open_strs {fuel : Nat} {a : Option Addr} {len cap : Nat} {y : DataW H × List MemPlace} (h : DataW.trod enc Try.prog w base spare held fuel 22 (Value.slice a len cap).cells.toList = some y) :
    len ≤ cap ∧ cap ≤ maxLen ∧ ∃ l : List ByteArray, l.length = len ∧ Sees w w.heap.size a len (l.map Value.string) := by
  rcases open_slice1 sl_str str_cellsOf h with ⟨hcs, _⟩ | ⟨x, l, c, m, n, V, D, P, hcs, _, hl, hm, hmm, _, hx⟩
  · simp [Value.cells] at hcs
    obtain ⟨rfl, rfl, rfl⟩ := hcs
    exact ⟨Nat.le_refl _, by decide, [], rfl, Sees.none_ _ _ _⟩
  · simp [Value.cells] at hcs
    obtain ⟨rfl, rfl, rfl⟩ := hcs
    refine ⟨hl, hm, ?_⟩
    have hone : ∀ i, i < len → ∃ s : ByteArray, w.cell? (x.add i) = some (.string s) := by
      intro i hi
      obtain ⟨h0, t0⟩ := hx i (by rw [hmm]; split <;> omega)
      obtain ⟨s, hs⟩ := open_cell_str t0
      rw [hs] at h0
      exact ⟨s, h0⟩
    haveI : Inhabited ByteArray := ⟨⟨#[]⟩⟩
    obtain ⟨q, hq⟩ := choose_lt hone
    refine ⟨(List.range len).map q, by simp, ⟨by simp, fun hn => ?_⟩⟩
    obtain ⟨b, off, spot⟩ := x
    have hspot : spot = none := by
      have := hq 0 hn
      simpa [Addr.add] using World.cell?_spot this
    subst hspot
    refine ⟨b, off, rfl, ?_, fun j u hu => ?_⟩
    · have := World.block_lt_of_cell? w _ (hq 0 hn)
      simpa [Addr.add] using this
    · have hj : j < len := by
        have := (List.getElem?_eq_some_iff.1 hu).1
        simpa using this
      have := hq j hj
      rw [add_plain] at this
      rw [this]
      simp [hj] at hu
      rw [← hu]
end
end Go.Proofs.Ytgioaapflilhhab
