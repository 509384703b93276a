/- How an argument that is a slice of bytes reads, in this seat's words. No program is named. -/
import Derived.Test.YtgioaapflilhhabCore
import Derived.ProofKit
import Derived.OpenShut
import Derived.Deep.Slices
namespace Go.Proofs.Ytgioaapflilhhab
open Go.RowKit Go.ChangeShapes Go.WideShapes Go.ChangeAt Go.Deep

/-- an int that fits a byte is a byte's number -/
theorem byte_of {z : Int} (h : (Lit.int .u8 z).wf = true) : Value.int .u8 z = cb (UInt8.ofNat z.toNat) := by
  have hb := bounds_u8 h
  unfold cb
  rw [UInt8.toNat_ofNat']
  congr 1
  omega

section
variable {H : Type} {enc : TypeId × Value → H} {P : Program} {w : World} {base : Nat} {spare : Nat → Bool} {held : Bool}
theorem open_bytes {t e : TypeId} {fuel : Nat} {a : Option Addr} {len cap : Nat} {y : DataW H × List MemPlace} (ht : P.underlying t = some (.slice e)) (he : P.underlying e = some (.int .u8)) (hc1 : P.cellsOf e = 1)
    (h : DataW.trod enc P w base spare held fuel t (Value.slice a len cap).cells.toList = some y) :
    len ≤ cap ∧ cap ≤ maxLen ∧ ∃ l : List UInt8, Sees w w.heap.size a len (cbs l) := by
  rcases open_ints ht he hc1 h with ⟨hcs, _⟩ | ⟨x, l, c, zs, hcs, _, hl, hm, hz, _, hcell, hwz⟩
  · simp [Value.cells] at hcs
    obtain ⟨rfl, rfl, rfl⟩ := hcs
    exact ⟨Nat.le_refl _, by decide, [], Sees.none_ _ _ _⟩
  · simp [Value.cells] at hcs
    obtain ⟨rfl, rfl, rfl⟩ := hcs
    have hle : len ≤ zs.length := by rw [hz]; split <;> omega
    refine ⟨hl, hm, (zs.take len).map (fun z => UInt8.ofNat z.toNat), by simp [cbs]; omega, fun hn => ?_⟩
    obtain ⟨b, off, rfl, hat⟩ := ints_at hcell (by omega)
    refine ⟨b, off, rfl, World.block_lt_of_cell? w _ (hat 0 (by omega)), fun j u hu => ?_⟩
    have hj : j < len := by
      have := (List.getElem?_eq_some_iff.1 hu).1
      simp [cbs] at this
      omega
    rw [hat j (by omega)]
    have hg : zs.getD j 0 = zs[j]'(by omega) := by rw [List.getD_eq_getElem?_getD, List.getElem?_eq_getElem (by omega)]; rfl
    rw [hg, byte_of (hwz _ (List.getElem_mem _))]
    simp only [cbs, List.map_map, List.getElem?_map, List.getElem?_take, if_pos hj, List.getElem?_eq_getElem (show j < zs.length by omega), Option.map_some, Function.comp_apply] at hu
    exact hu
end
end Go.Proofs.Ytgioaapflilhhab
