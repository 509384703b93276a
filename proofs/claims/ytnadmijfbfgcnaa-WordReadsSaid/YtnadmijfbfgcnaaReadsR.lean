/- WordReads: whatever is asked for, of any bytes, each answer, what is left, and whether it failed, is what the document tells. For every input, without a condition. -/
import Derived.Test.YtnadmijfbfgcnaaReads
import Derived.Test.YtnadmijfbfgcnaaOpen
namespace Go.Proofs.Ytnadmijfbfgcnaa.wordReads
open Go.ChangeShapes Go.WideShapes Go.ChangeAt Go.RowKit Go.Deep
set_option linter.unusedVariables false

theorem act_cells : Try.prog.cellsOf 40 = 3 := by kernel_rfl
theorem u8_cells : Try.prog.cellsOf 5 = 1 := by kernel_rfl
theorem i64_cells : Try.prog.cellsOf 3 = 1 := by kernel_rfl

section
variable {H : Type} {enc : TypeId × Value → H} {w : World} {base : Nat} {spare : Nat → Bool} {held : Bool}
theorem open_acts {fuel : Nat} {a : Option Addr} {len cap : Nat} {y : DataW H × List MemPlace}
    (h : DataW.trod enc Try.prog w base spare held fuel 35 (Value.slice a len cap).cells.toList = some y) :
    len ≤ maxLen ∧ ∃ f, Acts w w.heap.size a len f := by
  rcases open_slice Try.underlying35 h with ⟨hcs, _⟩ | ⟨x, l, c, m, n, D, Pl, hcs, _, hl, hm, hmm, _, hi⟩
  · simp [Value.cells] at hcs
    obtain ⟨rfl, rfl, rfl⟩ := hcs
    exact ⟨by decide, fun _ => (0, 0, 0), fun j hj => absurd hj (by omega), fun hn => absurd hn (by omega)⟩
  · simp [Value.cells] at hcs
    obtain ⟨rfl, rfl, rfl⟩ := hcs
    rw [act_cells] at hi
    have hone : ∀ i, i < len → ∃ k lo hi : Int, 0 ≤ k ∧ k ≤ 255 ∧ w.cell? ((x.add (i * 3)).add 0) = some (.int .u8 k) ∧ w.cell? ((x.add (i * 3)).add 1) = some (.int .i64 lo) ∧ w.cell? ((x.add (i * 3)).add 2) = some (.int .i64 hi) := by
      intro i hil
      obtain ⟨cs', hc, ht⟩ := hi i (by rw [hmm]; split <;> omega)
      obtain ⟨_, hlen, hat⟩ := World.cells?_some hc
      obtain ⟨xs, n', _, _, _, hxl, hf⟩ := DataW.trod_struct Try.underlying40 ht
      match cs', hlen with
      | [v0, v1, v2], _ =>
      match xs, hxl with
      | [y0, y1, y2], _ =>
      have f0 := hf 0 _ rfl
      have f1 := hf 1 _ rfl
      have f2 := hf 2 _ rfl
      simp [u8_cells, i64_cells] at f0 f1 f2
      obtain ⟨k, e0, _, w0⟩ := DataW.trod_int Try.underlying5 f0
      obtain ⟨lo, e1, _, w1⟩ := DataW.trod_int Try.underlying3 f1
      obtain ⟨hi', e2, _, w2⟩ := DataW.trod_int Try.underlying3 f2
      simp at e0 e1 e2
      subst e0 e1 e2
      have hb := bounds_u8 w0
      exact ⟨k, lo, hi', hb.1, hb.2, hat 0 (by omega), hat 1 (by omega), hat 2 (by omega)⟩
    refine ⟨Nat.le_trans hl hm, fun i => if h : i < len then ((hone i h).choose, (hone i h).choose_spec.choose, (hone i h).choose_spec.choose_spec.choose) else (0, 0, 0), ?_, ?_⟩
    · intro j hj
      simp only [dif_pos hj]
      have := (hone j hj).choose_spec.choose_spec.choose_spec
      exact ⟨this.1, this.2.1⟩
    · intro hn
      obtain ⟨b, off, spot⟩ := x
      have hspot : spot = none := by
        have := (hone 0 hn).choose_spec.choose_spec.choose_spec.2.2.1
        simpa [Addr.add] using World.cell?_spot this
      subst hspot
      refine ⟨b, off, rfl, World.block_lt_of_cell? w _ ((hone 0 hn).choose_spec.choose_spec.choose_spec.2.2.1) |> (fun h => by simpa [Addr.add] using h), fun j hj => ?_⟩
      simp only [dif_pos hj]
      have := (hone j hj).choose_spec.choose_spec.choose_spec
      have ea : ∀ i, (Addr.add ⟨b, off, none⟩ (j * 3)).add i = ⟨b, off + j * 3 + i, none⟩ := fun i => by rw [Go.WideShapes.add_plain, Go.WideShapes.add_plain]
      exact ⟨(congrArg w.cell? (ea 0)).symm.trans this.2.2.1, (congrArg w.cell? (ea 1)).symm.trans this.2.2.2.1, (congrArg w.cell? (ea 2)).symm.trans this.2.2.2.2⟩
end

set_option maxRecDepth 100000 in
theorem lifted (os : Os) (started : os.Started) (H : Type) (enc : TypeId × Value → H) :
    ReturnsInHanded {} Try.checked os 4 .any (Rows.wordReadsSpec.pre6 enc Try.prog Try.f4 Rows.wordReadsRow.domain false) (Rows.wordReadsSpec.post enc Try.prog Try.f4 false true false false) := by
  refine returnsInHanded_of_change (C := Try.checked) own started (by kernel_rfl) Try.func4
    (ChangeSpec.witness6 (enc := enc) (C := Try.checked) false ⟨#[], #[.slice none 0 0, .slice none 0 0], []⟩ 8 (by kernel_rfl) (by kernel_rfl) (by kernel_rfl) (by kernel_rfl)) ?_
  intro W base args ds gs before hval0 hW hcnd _
  have hval : ∀ (j : Nat) t v, Try.f4.params[j]? = some t → args[j]? = some v → Value.okWide Try.prog W .any base t v := hval0
  have hW' := hW
  obtain ⟨p, q, hA0, hV, rfl, hfz, hnd⟩ := hW
  have hA : DataW.TrodAll enc Try.prog W 0 (fun _ => true) true Try.f4.params.toList args.toList ds p := hA0
  rw [Try.params4] at hA hval
  obtain ⟨v0, vs0, d0, ds0, p0, q0, hargs, rfl, rfl, h0, r0⟩ := trodAll_cons hA
  obtain ⟨v1, vs1, d1, ds1, p1, q1, rfl, rfl, rfl, h1, r1⟩ := trodAll_cons r0
  obtain ⟨rfl, rfl, rfl⟩ := trodAll_nil r1
  obtain rfl : args = #[v0, v1] := by cases args; simp_all
  obtain ⟨rfl, rfl⟩ := trodVars_none hV
  obtain ⟨a0, len0, cap0, rfl⟩ := okWide_slice Try.underlying23 (hval 0 23 v0 rfl rfl)
  obtain ⟨a1, len1, cap1, rfl⟩ := okWide_slice Try.underlying35 (hval 1 35 v1 rfl rfl)
  have k0 := h0
  have k1 := h1
  have lt0 : ∀ x ∈ p0, x.block < W.heap.size := by obtain ⟨m, hm⟩ := k0; exact DataW.trod_lt m _ _ _ hm
  have lt1 : ∀ x ∈ p1, x.block < W.heap.size := by obtain ⟨m, hm⟩ := k1; exact DataW.trod_lt m _ _ _ hm
  obtain ⟨m0, h0⟩ := h0
  obtain ⟨m1, h1⟩ := h1
  obtain ⟨hl0, hc0, l, hs⟩ := open_bytes Try.underlying23 Try.underlying5 u8_cells h0
  obtain ⟨hl1, f, ha⟩ := open_acts h1
  clear hA0 hval0
  refine (walk a0 len0 cap0 l a1 len1 cap1 f W hs ha (Nat.le_trans hl0 hc0) hl1).mono fun e W' ⟨he, bel⟩ => ?_
  subst he
  exact ⟨_, rfl, _, _, _, [], _, [], hW', trodAll_mk1 (shut_bool Try.underlying4 _), (trodAll_cons_mk (Below.trod laidOut (by kernel_rfl) (of_decide_eq_true (by kernel_rfl)) k0 bel lt0) (trodAll_cons_mk (Below.trod laidOut (by kernel_rfl) (of_decide_eq_true (by kernel_rfl)) k1 bel lt1) trodAll_mk0)), rfl, bel.frame _, fun h => by cases h⟩

theorem over : Rows.wordReadsRow.holds Try.pinned (OpenSpec.ofChange Rows.wordReadsSpec) :=
  OpenClaim.holds_of_wide 4 Try.f4 rfl rfl rfl rfl rfl rfl rfl ⟨rfl, rfl, rfl, rfl, rfl⟩ rfl rfl rfl rfl rfl (by kernel_rfl) Try.func4 (by kernel_rfl)
    (of_decide_eq_true (by kernel_rfl)) (by unfold Func.isWrapper; first | (rw [if_pos (by decide +kernel)]; kernel_rfl) | (rw [if_neg (by decide +kernel)]; exact ⟨rfl, rfl⟩))
    (fun os started H enc _ => lifted os started H enc)

theorem proved : Rows.WordReadsSaid :=
  over
#print axioms proved
end Go.Proofs.Ytnadmijfbfgcnaa.wordReads
