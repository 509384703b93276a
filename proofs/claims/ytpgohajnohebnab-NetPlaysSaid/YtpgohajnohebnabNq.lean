/- NetPlays: whatever is sent, taken and doubled, each answer, and all that is under way, is what a plain row tells. For every input, without a condition. -/
import Derived.Test.YtpgohajnohebnabNp
import Derived.ProofKit
import Derived.Deep.Slices
import Derived.OpenShut
namespace Go.Proofs.Ytpgohajnohebnab.netPlays
open Go.ChangeShapes Go.WideShapes Go.ChangeAt Go.RowKit Go.Deep
set_option linter.unusedVariables false
theorem act_size : Try.prog.cellsOf 28 = 3 := by kernel_rfl
theorem u8_cells' : Try.prog.cellsOf 5 = 1 := by kernel_rfl
theorem i64_cells' : Try.prog.cellsOf 3 = 1 := by kernel_rfl

section
variable {H : Type} {enc : TypeId × Value → H} {w : World} {base : Nat} {spare : Nat → Bool} {held : Bool}
set_option maxRecDepth 100000 in
theorem open_acts {fuel : Nat} {a : Option Addr} {len cap : Nat} {y : DataW H × List MemPlace}
    (h : DataW.trod enc Try.prog w base spare held fuel 22 (Value.slice a len cap).cells.toList = some y) :
    ∃ f, ActsL w w.heap.size a len f := by
  rcases open_slice Try.underlying22 h with ⟨hcs, _⟩ | ⟨x, l, c, m, n, D, Pl, hcs, _, hl, hm, hmm, _, hi⟩
  · simp [Value.cells] at hcs
    obtain ⟨rfl, rfl, rfl⟩ := hcs
    exact ⟨fun _ => ⟨0, 0, 0⟩, fun j hj => absurd hj (by omega), fun hn => absurd hn (by omega)⟩
  · simp [Value.cells] at hcs
    obtain ⟨rfl, rfl, rfl⟩ := hcs
    rw [act_size] at hi
    have hone : ∀ i, i < len → ∃ v : ActL, (0 ≤ v.kind ∧ v.kind ≤ 255) ∧ w.cell? ((x.add (i * 3)).add 0) = some (.int .u8 v.kind) ∧ w.cell? ((x.add (i * 3)).add 1) = some (.int .i64 v.X) ∧ w.cell? ((x.add (i * 3)).add 2) = some (.int .i64 v.i) := by
      intro i hil
      obtain ⟨cs', hc, ht⟩ := hi i (by rw [hmm]; split <;> omega)
      obtain ⟨_, hlen, hat⟩ := World.cells?_some hc
      obtain ⟨xs, n', _, _, _, hxl, hf⟩ := DataW.trod_struct Try.underlying28 ht
      match cs', hlen with
      | [v0, v1, v2], _ =>
      match xs, hxl with
      | [y0, y1, y2], _ =>
      have f0 := hf 0 _ rfl
      have f1 := hf 1 _ rfl
      have f2 := hf 2 _ rfl
      simp [u8_cells', i64_cells'] at f0 f1 f2
      obtain ⟨k, e0, _, w0⟩ := DataW.trod_int Try.underlying5 f0
      obtain ⟨xi, e1, _, _⟩ := DataW.trod_int Try.underlying3 f1
      obtain ⟨ai, e2, _, _⟩ := DataW.trod_int Try.underlying3 f2
      simp at e0 e1 e2
      subst e0 e1 e2
      have hb := bounds_u8 w0
      exact ⟨⟨k, xi, ai⟩, ⟨hb.1, hb.2⟩, hat 0 (by omega), hat 1 (by omega), hat 2 (by omega)⟩
    refine ⟨fun i => if h : i < len then (hone i h).choose else ⟨0, 0, 0⟩, ?_, ?_⟩
    · intro j hj
      simp only [dif_pos hj]
      exact (hone j hj).choose_spec.1
    · intro hn
      obtain ⟨b, off, spot⟩ := x
      have hspot : spot = none := by
        have := (hone 0 hn).choose_spec.2.1
        simpa [Addr.add] using World.cell?_spot this
      subst hspot
      refine ⟨b, off, rfl, World.block_lt_of_cell? w _ ((hone 0 hn).choose_spec.2.1) |> (fun h => by simpa [Addr.add] using h), fun j hj => ?_⟩
      simp only [dif_pos hj]
      have h5 := (hone j hj).choose_spec.2
      have ea : ∀ i, (Addr.add ⟨b, off, none⟩ (j * 3)).add i = ⟨b, off + j * 3 + i, none⟩ := fun i => by rw [Go.WideShapes.add_plain, Go.WideShapes.add_plain]
      exact ⟨(congrArg w.cell? (ea 0)).symm.trans h5.1, (congrArg w.cell? (ea 1)).symm.trans h5.2.1, (congrArg w.cell? (ea 2)).symm.trans h5.2.2⟩
end

set_option maxRecDepth 100000 in
theorem lifted (os : Os) (started : os.Started) (H : Type) (enc : TypeId × Value → H) :
    ReturnsInHanded {} Try.checked os 3 .any (Rows.netPlaysSpec.pre6 enc Try.prog Try.f3 Rows.netPlaysRow.domain false) (Rows.netPlaysSpec.post enc Try.prog Try.f3 false true false false) := by
  refine returnsInHanded_of_change (C := Try.checked) own started (by kernel_rfl) Try.func3
    (ChangeSpec.witness6 (enc := enc) (C := Try.checked) false ⟨#[], #[.slice none 0 0], []⟩ 8 (by kernel_rfl) (by kernel_rfl) (by kernel_rfl) (by kernel_rfl)) ?_
  intro W base args ds gs before hval0 hW hcnd _
  have hval : ∀ (j : Nat) t v, Try.f3.params[j]? = some t → args[j]? = some v → Value.okWide Try.prog W .any base t v := hval0
  have hW' := hW
  obtain ⟨p, q, hA0, hV, rfl, hfz, hnd⟩ := hW
  have hA : DataW.TrodAll enc Try.prog W 0 (fun _ => true) true Try.f3.params.toList args.toList ds p := hA0
  rw [Try.params3] at hA hval
  obtain ⟨v0, vs0, d0, ds0, p0, q0, hargs, rfl, rfl, h0, r0⟩ := trodAll_cons hA
  obtain ⟨rfl, rfl, rfl⟩ := trodAll_nil r0
  obtain rfl : args = #[v0] := by cases args; simp_all
  obtain ⟨rfl, rfl⟩ := trodVars_none hV
  obtain ⟨a0, len0, cap0, rfl⟩ := okWide_slice Try.underlying22 (hval 0 22 v0 rfl rfl)
  have k0 := h0
  have lt0 : ∀ x ∈ p0, x.block < W.heap.size := by obtain ⟨m, hm⟩ := k0; exact DataW.trod_lt m _ _ _ hm
  obtain ⟨m0, h0⟩ := h0
  obtain ⟨f, ha⟩ := open_acts h0
  clear hA0 hval0
  simp only [List.append_nil] at hW'
  refine (walk a0 len0 cap0 f W ha).mono fun e W' ⟨he, bel⟩ => ?_
  subst he
  exact ⟨_, rfl, _, _, _, [], _, [], hW', trodAll_mk1 (shut_bool Try.underlying4 _), (trodAll_cons_mk (Below.trod laidOut (by kernel_rfl) (of_decide_eq_true (by kernel_rfl)) k0 bel lt0) trodAll_mk0), rfl, bel.frame _, fun h => by cases h⟩

theorem over : Rows.netPlaysRow.holds Try.pinned (OpenSpec.ofChange Rows.netPlaysSpec) :=
  OpenClaim.holds_of_wide 3 Try.f3 rfl rfl rfl rfl rfl rfl rfl ⟨rfl, rfl, rfl, rfl, rfl⟩ rfl rfl rfl rfl rfl (by kernel_rfl) Try.func3 (by kernel_rfl)
    (of_decide_eq_true (by kernel_rfl)) (by unfold Func.isWrapper; first | (rw [if_pos (by decide +kernel)]; kernel_rfl) | (rw [if_neg (by decide +kernel)]; exact ⟨rfl, rfl⟩))
    (fun os started H enc _ => lifted os started H enc)

theorem proved : Rows.NetPlaysSaid :=
  over
#print axioms proved
end Go.Proofs.Ytpgohajnohebnab.netPlays
