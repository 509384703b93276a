/- How an argument that is a slice of bytes reads, in this seat's words. No program is named. -/
import Derived.ProofKit
import Derived.OpenShut
import Derived.Deep.Slices
import Derived.Deep.SlicePairs
import Derived.Test.YtlggkeoihpcdiaaJ1
import Derived.Test.YtlggkeoihpcdiaaJ3
namespace Go.Proofs.Ytlggkeoihpcdiaa
open Go.RowKit Go.ChangeShapes Go.WideShapes Go.ChangeAt Go.Deep

/-- an int that fits a byte is a byte's number -/
theorem byte_of {z : Int} (h : (Lit.int .u8 z).wf = true) : Value.int .u8 z = cb (UInt8.ofNat z.toNat) := by
  have hb := bounds_u8 h
  unfold cb
  rw [UInt8.toNat_ofNat']
  congr 1
  omega

section
variable {H : Type} {enc : TypeId × Value → H} {P : Program} {w : World} {base : Nat} {spare : Nat → Bool} {held : Bool}
theorem open_bytes {t e : TypeId} {fuel : Nat} {a : Option Addr} {len cap : Nat} {y : DataW H × List MemPlace} (ht : P.underlying t = some (.slice e)) (he : P.underlying e = some (.int .u8)) (hc1 : P.cellsOf e = 1)
    (h : DataW.trod enc P w base spare held fuel t (Value.slice a len cap).cells.toList = some y) :
    len ≤ cap ∧ cap ≤ maxLen ∧ ∃ l : List UInt8, Sees w w.heap.size a len (cbs l) := by
  rcases open_ints ht he hc1 h with ⟨hcs, _⟩ | ⟨x, l, c, zs, hcs, _, hl, hm, hz, _, hcell, hwz⟩
  · simp [Value.cells] at hcs
    obtain ⟨rfl, rfl, rfl⟩ := hcs
    exact ⟨Nat.le_refl _, by decide, [], Sees.none_ _ _ _⟩
  · simp [Value.cells] at hcs
    obtain ⟨rfl, rfl, rfl⟩ := hcs
    have hle : len ≤ zs.length := by rw [hz]; split <;> omega
    refine ⟨hl, hm, (zs.take len).map (fun z => UInt8.ofNat z.toNat), by simp [cbs]; omega, fun hn => ?_⟩
    obtain ⟨b, off, rfl, hat⟩ := ints_at hcell (by omega)
    refine ⟨b, off, rfl, World.block_lt_of_cell? w _ (hat 0 (by omega)), fun j u hu => ?_⟩
    have hj : j < len := by
      have := (List.getElem?_eq_some_iff.1 hu).1
      simp [cbs] at this
      omega
    rw [hat j (by omega)]
    have hg : zs.getD j 0 = zs[j]'(by omega) := by rw [List.getD_eq_getElem?_getD, List.getElem?_eq_getElem (by omega)]; rfl
    rw [hg, byte_of (hwz _ (List.getElem_mem _))]
    simp only [cbs, List.map_map, List.getElem?_map, List.getElem?_take, if_pos hj, List.getElem?_eq_getElem (show j < zs.length by omega), Option.map_some, Function.comp_apply] at hu
    exact hu
end
end Go.Proofs.Ytlggkeoihpcdiaa

/- How an argument that is a slice of entries reads. -/
namespace Go.Proofs.Ytlggkeoihpcdiaa
open Go.RowKit Go.ChangeShapes Go.WideShapes Go.ChangeAt Go.Deep

theorem ent_cells : Try.prog.cellsOf 73 = 2 := by kernel_rfl
theorem i64_cells : Try.prog.cellsOf 3 = 1 := by kernel_rfl
theorem str_cellsOf : Try.prog.cellsOf 9 = 1 := by kernel_rfl

/-- a row whose cells are those of entries -/
theorem ents_cells {w : World} {b off : Nat} {es : List Ent} (h : ∀ (i : Nat) (hi : i < es.length), w.cell? ⟨b, off + i * 2, none⟩ = some (.int .i64 es[i].t) ∧ w.cell? ⟨b, off + i * 2 + 1, none⟩ = some (.string es[i].s)) :
    ∀ j u, (ecs es)[j]? = some u → w.cell? ⟨b, off + j, none⟩ = some u := by
  intro j u hu
  have hj : j < es.length * 2 := by
    have := (List.getElem?_eq_some_iff.1 hu).1
    rwa [ecs_length] at this
  have hi : j / 2 < es.length := by omega
  obtain ⟨g1, g2⟩ := ecs_get es (j / 2) hi
  obtain ⟨k1, k2⟩ := h (j / 2) hi
  rcases Nat.mod_two_eq_zero_or_one j with hm | hm
  · have e : j / 2 * 2 = j := by omega
    rw [e] at g1 k1
    rw [g1] at hu
    rw [k1, hu]
  · have e : j / 2 * 2 + 1 = j := by omega
    rw [e] at g2
    rw [show off + j / 2 * 2 + 1 = off + j from by omega] at k2
    rw [g2] at hu
    rw [k2, hu]

section
variable {H : Type} {enc : TypeId × Value → H} {w : World} {base : Nat} {spare : Nat → Bool} {held : Bool}
theorem open_cell_int {fuel : Nat} {v : Value} {y : DataW H × List MemPlace} (h : DataW.trod enc Try.prog w base spare held fuel 3 [v] = some y) : ∃ k : Int, v = .int .i64 k ∧ -9223372036854775808 ≤ k ∧ k ≤ 9223372036854775807 := by
  obtain ⟨kz, e0, _, wk⟩ := DataW.trod_int Try.underlying3 h
  simp at e0
  subst e0
  have := bounds_i64 wk
  exact ⟨kz, rfl, this.1, by omega⟩
theorem open_cell_str {fuel : Nat} {v : Value} {y : DataW H × List MemPlace} (h : DataW.trod enc Try.prog w base spare held fuel 9 [v] = some y) : ∃ s, v = .string s := by
  obtain ⟨s, e0, _⟩ := DataW.trod_string Try.underlying9 h
  simp at e0
  exact ⟨s, e0⟩
theorem open_ents {fuel : Nat} {a : Option Addr} {len cap : Nat} {y : DataW H × List MemPlace} (h : DataW.trod enc Try.prog w base spare held fuel 23 (Value.slice a len cap).cells.toList = some y) :
    len ≤ cap ∧ cap ≤ maxLen ∧ ∃ es : List Ent, es.length = len ∧ Ents w w.heap.size a es := by
  rcases open_slice_pairs sl_ent Try.underlying73 ent_cells rfl rfl i64_cells str_cellsOf h with ⟨hcs, _⟩ | ⟨x, l, c, m, n, V0, V1, D0, D1, P0, P1, hcs, _, hl, hm, hmm, _, hx⟩
  · simp [Value.cells] at hcs
    obtain ⟨rfl, rfl, rfl⟩ := hcs
    exact ⟨Nat.le_refl _, by decide, [], rfl, Ents.nil _ _ _⟩
  · simp [Value.cells] at hcs
    obtain ⟨rfl, rfl, rfl⟩ := hcs
    refine ⟨hl, hm, ?_⟩
    have hone : ∀ i, i < len → ∃ e : Ent, w.cell? (x.add (i * 2)) = some (.int .i64 e.t) ∧ w.cell? (x.add (i * 2 + 1)) = some (.string e.s) := by
      intro i hi
      obtain ⟨h0, h1, t0, t1⟩ := hx i (by rw [hmm]; split <;> omega)
      obtain ⟨k, hk, _⟩ := open_cell_int t0
      obtain ⟨s, hs⟩ := open_cell_str t1
      rw [hk] at h0
      rw [hs] at h1
      exact ⟨⟨k, s⟩, h0, h1⟩
    haveI : Inhabited Ent := ⟨⟨0, ⟨#[]⟩⟩⟩
    obtain ⟨q, hq⟩ := choose_lt hone
    have hget : ∀ (i : Nat) (hi : i < ((List.range len).map q).length), ((List.range len).map q)[i] = q i := fun i hi => by simp
    refine ⟨(List.range len).map q, by simp, ⟨by rw [ecs_length], fun hn => ?_⟩⟩
    have hn0 : 0 < len := by simpa using hn
    obtain ⟨b, off, spot⟩ := x
    have hspot : spot = none := by
      have := (hq 0 hn0).1
      simpa [Addr.add] using World.cell?_spot this
    subst hspot
    refine ⟨b, off, rfl, ?_, ents_cells fun i hi => ?_⟩
    · have := World.block_lt_of_cell? w _ (hq 0 hn0).1
      simpa [Addr.add] using this
    · have hi' : i < len := by simpa using hi
      have := hq i hi'
      rw [hget i hi]
      rw [add_plain, add_plain] at this
      exact ⟨this.1, by rw [show off + i * 2 + 1 = off + (i * 2 + 1) from by omega]; exact this.2⟩
end
end Go.Proofs.Ytlggkeoihpcdiaa
