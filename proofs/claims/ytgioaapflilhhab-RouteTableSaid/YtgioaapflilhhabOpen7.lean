/- How an argument that is a slice of entries reads. -/
import Derived.Test.YtgioaapflilhhabLog1
import Derived.Test.YtgioaapflilhhabOpen
import Derived.Deep.SlicePairs
namespace Go.Proofs.Ytgioaapflilhhab
open Go.RowKit Go.ChangeShapes Go.WideShapes Go.ChangeAt Go.Deep

theorem i64_cells : Try.prog.cellsOf 3 = 1 := by kernel_rfl
theorem str_cellsOf : Try.prog.cellsOf 9 = 1 := by kernel_rfl

/-- a row whose cells are those of entries -/
theorem ents_cells {w : World} {b off : Nat} {es : List Ent} (h : ∀ (i : Nat) (hi : i < es.length), w.cell? ⟨b, off + i * 2, none⟩ = some (.int .i64 es[i].t) ∧ w.cell? ⟨b, off + i * 2 + 1, none⟩ = some (.string es[i].s)) :
    ∀ j u, (ecs es)[j]? = some u → w.cell? ⟨b, off + j, none⟩ = some u := by
  intro j u hu
  have hj : j < es.length * 2 := by
    have := (List.getElem?_eq_some_iff.1 hu).1
    rwa [ecs_length] at this
  have hi : j / 2 < es.length := by omega
  obtain ⟨g1, g2⟩ := ecs_get es (j / 2) hi
  obtain ⟨k1, k2⟩ := h (j / 2) hi
  rcases Nat.mod_two_eq_zero_or_one j with hm | hm
  · have e : j / 2 * 2 = j := by omega
    rw [e] at g1 k1
    rw [g1] at hu
    rw [k1, hu]
  · have e : j / 2 * 2 + 1 = j := by omega
    rw [e] at g2
    rw [show off + j / 2 * 2 + 1 = off + j from by omega] at k2
    rw [g2] at hu
    rw [k2, hu]

section
variable {H : Type} {enc : TypeId × Value → H} {w : World} {base : Nat} {spare : Nat → Bool} {held : Bool}
theorem open_cell_int {fuel : Nat} {v : Value} {y : DataW H × List MemPlace} (h : DataW.trod enc Try.prog w base spare held fuel 3 [v] = some y) : ∃ k : Int, v = .int .i64 k ∧ -9223372036854775808 ≤ k ∧ k ≤ 9223372036854775807 := by
  obtain ⟨kz, e0, _, wk⟩ := DataW.trod_int Try.underlying3 h
  simp at e0
  subst e0
  have := bounds_i64 wk
  exact ⟨kz, rfl, this.1, by omega⟩
theorem open_cell_str {fuel : Nat} {v : Value} {y : DataW H × List MemPlace} (h : DataW.trod enc Try.prog w base spare held fuel 9 [v] = some y) : ∃ s, v = .string s := by
  obtain ⟨s, e0, _⟩ := DataW.trod_string Try.underlying9 h
  simp at e0
  exact ⟨s, e0⟩
end
end Go.Proofs.Ytgioaapflilhhab
