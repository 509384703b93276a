/- How an argument that is a slice of records reads. -/
import Derived.Test.YtmhgbpgbnfdokaaRec
import Derived.Test.YtmhgbpgbnfdokaaOpen2
import Derived.Deep.SlicePairs
namespace Go.Proofs.Ytmhgbpgbnfdokaa
open Go.RowKit Go.ChangeShapes Go.WideShapes Go.ChangeAt Go.Deep

theorem rec_cells : Try.prog.cellsOf 29 = 2 := by kernel_rfl
theorem sl_cells : Try.prog.cellsOf 27 = 1 := by kernel_rfl

/-- a row whose cells are those of records -/
theorem recs_cells {w : World} {b off : Nat} {rs : List RecP} (h : ∀ (i : Nat) (hi : i < rs.length), w.cell? ⟨b, off + i * 2, none⟩ = some (cb rs[i].k) ∧ w.cell? ⟨b, off + i * 2 + 1, none⟩ = some (.slice rs[i].A rs[i].n rs[i].c)) :
    ∀ j u, (rcs rs)[j]? = some u → w.cell? ⟨b, off + j, none⟩ = some u := by
  intro j u hu
  have hj : j < rs.length * 2 := by
    have := (List.getElem?_eq_some_iff.1 hu).1
    rwa [rcs_length] at this
  have hi : j / 2 < rs.length := by omega
  obtain ⟨g1, g2⟩ := rcs_get rs (j / 2) hi
  obtain ⟨k1, k2⟩ := h (j / 2) hi
  rcases Nat.mod_two_eq_zero_or_one j with hm | hm
  · have e : j / 2 * 2 = j := by omega
    rw [e] at g1 k1
    rw [g1] at hu
    rw [k1, hu]
  · have e : j / 2 * 2 + 1 = j := by omega
    rw [e] at g2
    rw [show off + j / 2 * 2 + 1 = off + j from by omega] at k2
    rw [g2] at hu
    rw [k2, hu]

section
variable {H : Type} {enc : TypeId × Value → H} {w : World} {base : Nat} {spare : Nat → Bool} {held : Bool}
/-- a slice of bytes, by its one cell -/
theorem open_cell_bytes {fuel : Nat} {v : Value} {y : DataW H × List MemPlace} (h : DataW.trod enc Try.prog w base spare held fuel 27 [v] = some y) :
    ∃ A n c l, v = .slice A n c ∧ n ≤ c ∧ c ≤ maxLen ∧ Sees w w.heap.size A n (cbs l) := by
  have e1 : ∃ A nn cc, v = .slice A nn cc := by
    rcases open_slice Try.underlying27 h with ⟨h', _⟩ | ⟨a', l', c', _, _, _, _, h', _⟩
    · simp at h'
      exact ⟨_, _, _, h'⟩
    · simp at h'
      exact ⟨_, _, _, h'⟩
  obtain ⟨A, nn, cc, rfl⟩ := e1
  have f1 : DataW.trod enc Try.prog w base spare held fuel 27 (Value.slice A nn cc).cells.toList = some y := by simpa [Value.cells] using h
  obtain ⟨hnc, hcm, l, hs⟩ := open_bytes Try.underlying27 Try.underlying5 u8_cells' f1
  exact ⟨A, nn, cc, l, rfl, hnc, hcm, hs⟩
theorem open_cell_byte {fuel : Nat} {v : Value} {y : DataW H × List MemPlace} (h : DataW.trod enc Try.prog w base spare held fuel 5 [v] = some y) : ∃ k : UInt8, v = cb k := by
  obtain ⟨kz, e0, _, wk⟩ := DataW.trod_int Try.underlying5 h
  simp at e0
  subst e0
  exact ⟨UInt8.ofNat kz.toNat, byte_of wk⟩
theorem open_recs {fuel : Nat} {a : Option Addr} {len cap : Nat} {y : DataW H × List MemPlace} (h : DataW.trod enc Try.prog w base spare held fuel 22 (Value.slice a len cap).cells.toList = some y) :
    len ≤ cap ∧ cap ≤ maxLen ∧ ∃ rs : List RecP, rs.length = len ∧ Recs w w.heap.size a rs ∧ ∀ r ∈ rs, r.n ≤ r.c ∧ r.c ≤ maxLen := by
  rcases open_slice_pairs Try.underlying22 Try.underlying29 rec_cells rfl rfl u8_cells' sl_cells h with ⟨hcs, _⟩ | ⟨x, l, c, m, n, V0, V1, D0, D1, P0, P1, hcs, _, hl, hm, hmm, _, hx⟩
  · simp [Value.cells] at hcs
    obtain ⟨rfl, rfl, rfl⟩ := hcs
    exact ⟨Nat.le_refl _, by decide, [], rfl, ⟨Sees.none_ _ _ _, fun r hr => by cases hr⟩, fun r hr => by cases hr⟩
  · simp [Value.cells] at hcs
    obtain ⟨rfl, rfl, rfl⟩ := hcs
    refine ⟨hl, hm, ?_⟩
    have hone : ∀ i, i < len → ∃ r : RecP, w.cell? (x.add (i * 2)) = some (cb r.k) ∧ w.cell? (x.add (i * 2 + 1)) = some (.slice r.A r.n r.c) ∧ Sees w w.heap.size r.A r.n (cbs r.l) ∧ r.n ≤ r.c ∧ r.c ≤ maxLen := by
      intro i hi
      obtain ⟨h0, h1, t0, t1⟩ := hx i (by rw [hmm]; split <;> omega)
      obtain ⟨k, hk⟩ := open_cell_byte t0
      obtain ⟨A, nn, cc, lb, hv, hnc, hcm, hs⟩ := open_cell_bytes t1
      rw [hk] at h0
      rw [hv] at h1
      exact ⟨⟨k, A, nn, cc, lb⟩, h0, h1, hs, hnc, hcm⟩
    haveI : Inhabited RecP := ⟨⟨0, none, 0, 0, []⟩⟩
    obtain ⟨q, hq⟩ := choose_lt hone
    have hget : ∀ (i : Nat) (hi : i < ((List.range len).map q).length), ((List.range len).map q)[i] = q i := fun i hi => by simp
    refine ⟨(List.range len).map q, by simp, ⟨⟨by rw [rcs_length], fun hn => ?_⟩, fun r hr => ?_⟩, fun r hr => ?_⟩
    · have hn0 : 0 < len := by simpa using hn
      obtain ⟨b, off, spot⟩ := x
      have hspot : spot = none := by
        have := (hq 0 hn0).1
        simpa [Addr.add] using World.cell?_spot this
      subst hspot
      refine ⟨b, off, rfl, ?_, recs_cells fun i hi => ?_⟩
      · have := World.block_lt_of_cell? w _ (hq 0 hn0).1
        simpa [Addr.add] using this
      · have hi' : i < len := by simpa using hi
        have := hq i hi'
        rw [hget i hi]
        rw [add_plain, add_plain] at this
        exact ⟨this.1, by rw [show off + i * 2 + 1 = off + (i * 2 + 1) from by omega]; exact this.2.1⟩
    · obtain ⟨i, hi, rfl⟩ := List.mem_map.1 hr
      exact (hq i (List.mem_range.1 hi)).2.2.1
    · obtain ⟨i, hi, rfl⟩ := List.mem_map.1 hr
      exact (hq i (List.mem_range.1 hi)).2.2.2
end
end Go.Proofs.Ytmhgbpgbnfdokaa
