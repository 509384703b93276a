/- LogPlays, the closing part: how its arguments are read out of memory, and the statement. For every input, without a condition. -/
import Derived.Test.YtcmeindekbjefaaLp
import Derived.Test.YtcmeindekbjefaaOpen7
import Derived.ProofKit
import Derived.Deep.Slices
import Derived.OpenShut
namespace Go.Proofs.Ytcmeindekbjefaa.logPlays
open Go.ChangeShapes Go.WideShapes Go.ChangeAt Go.RowKit Go.Deep
set_option linter.unusedVariables false
theorem act_cells : Try.prog.cellsOf 60 = 4 := by kernel_rfl
theorem u8_cells' : Try.prog.cellsOf 5 = 1 := by kernel_rfl
theorem i64_cells' : Try.prog.cellsOf 3 = 1 := by kernel_rfl
theorem sl_cells' : Try.prog.cellsOf 23 = 1 := by kernel_rfl

section
variable {H : Type} {enc : TypeId × Value → H} {w : World} {base : Nat} {spare : Nat → Bool} {held : Bool}
set_option maxRecDepth 100000 in
theorem open_acts {fuel : Nat} {a : Option Addr} {len cap : Nat} {y : DataW H × List MemPlace}
    (h : DataW.trod enc Try.prog w base spare held fuel 56 (Value.slice a len cap).cells.toList = some y) :
    ∃ f, ActsL w w.heap.size a len f := by
  rcases open_slice Try.underlying56 h with ⟨hcs, _⟩ | ⟨x, l, c, m, n, D, Pl, hcs, _, hl, hm, hmm, _, hi⟩
  · simp [Value.cells] at hcs
    obtain ⟨rfl, rfl, rfl⟩ := hcs
    exact ⟨fun _ => ⟨0, 0, 0, none, 0, 0, []⟩, fun j hj => absurd hj (by omega), fun hn => absurd hn (by omega)⟩
  · simp [Value.cells] at hcs
    obtain ⟨rfl, rfl, rfl⟩ := hcs
    rw [act_cells] at hi
    have hone : ∀ i, i < len → ∃ v : ActL, (0 ≤ v.kind ∧ v.kind ≤ 255 ∧ Ents w w.heap.size v.A v.l ∧ v.l.length = v.n ∧ v.n ≤ v.c) ∧ w.cell? ((x.add (i * 4)).add 0) = some (.int .u8 v.kind) ∧ w.cell? ((x.add (i * 4)).add 1) = some (.int .i64 v.i) ∧ w.cell? ((x.add (i * 4)).add 2) = some (.int .i64 v.t) ∧ w.cell? ((x.add (i * 4)).add 3) = some (.slice v.A v.n v.c) := by
      intro i hil
      obtain ⟨cs', hc, ht⟩ := hi i (by rw [hmm]; split <;> omega)
      obtain ⟨_, hlen, hat⟩ := World.cells?_some hc
      obtain ⟨xs, n', _, _, _, hxl, hf⟩ := DataW.trod_struct Try.underlying60 ht
      match cs', hlen with
      | [v0, v1, v2, v3], _ =>
      match xs, hxl with
      | [y0, y1, y2, y3], _ =>
      have f0 := hf 0 _ rfl
      have f1 := hf 1 _ rfl
      have f2 := hf 2 _ rfl
      have f3 := hf 3 _ rfl
      simp [u8_cells', i64_cells', sl_cells'] at f0 f1 f2 f3
      obtain ⟨k, e0, _, w0⟩ := DataW.trod_int Try.underlying5 f0
      obtain ⟨ai, e1, _, _⟩ := DataW.trod_int Try.underlying3 f1
      obtain ⟨at_, e2, _, _⟩ := DataW.trod_int Try.underlying3 f2
      simp at e0 e1 e2
      subst e0 e1 e2
      have e3 : ∃ A nn cc, v3 = .slice A nn cc := by
        rcases open_slice sl_ent f3 with ⟨h', _⟩ | ⟨a', l', c', _, _, _, _, h', _⟩
        · simp at h'
          exact ⟨_, _, _, h'⟩
        · simp at h'
          exact ⟨_, _, _, h'⟩
      obtain ⟨A, nn, cc, rfl⟩ := e3
      have f3' : DataW.trod enc Try.prog w base spare held n' 23 (Value.slice A nn cc).cells.toList = some y3 := by simpa [Value.cells] using f3
      obtain ⟨hnc, _, lb, hlb, hsb⟩ := open_ents f3'
      have hb := bounds_u8 w0
      exact ⟨⟨k, ai, at_, A, nn, cc, lb⟩, ⟨hb.1, hb.2, hsb, hlb, hnc⟩, hat 0 (by omega), hat 1 (by omega), hat 2 (by omega), hat 3 (by omega)⟩
    refine ⟨fun i => if h : i < len then (hone i h).choose else ⟨0, 0, 0, none, 0, 0, []⟩, ?_, ?_⟩
    · intro j hj
      simp only [dif_pos hj]
      exact (hone j hj).choose_spec.1
    · intro hn
      obtain ⟨b, off, spot⟩ := x
      have hspot : spot = none := by
        have := (hone 0 hn).choose_spec.2.1
        simpa [Addr.add] using World.cell?_spot this
      subst hspot
      refine ⟨b, off, rfl, World.block_lt_of_cell? w _ ((hone 0 hn).choose_spec.2.1) |> (fun h => by simpa [Addr.add] using h), fun j hj => ?_⟩
      simp only [dif_pos hj]
      have h5 := (hone j hj).choose_spec.2
      have ea : ∀ i, (Addr.add ⟨b, off, none⟩ (j * 4)).add i = ⟨b, off + j * 4 + i, none⟩ := fun i => by rw [Go.WideShapes.add_plain, Go.WideShapes.add_plain]
      exact ⟨(congrArg w.cell? (ea 0)).symm.trans h5.1, (congrArg w.cell? (ea 1)).symm.trans h5.2.1, (congrArg w.cell? (ea 2)).symm.trans h5.2.2.1, (congrArg w.cell? (ea 3)).symm.trans h5.2.2.2⟩
end

set_option maxRecDepth 100000 in
theorem lifted (os : Os) (started : os.Started) (H : Type) (enc : TypeId × Value → H) :
    ReturnsInHanded {} Try.checked os 6 .any (Rows.logPlaysSpec.pre6 enc Try.prog Try.f6 Rows.logPlaysRow.domain false) (Rows.logPlaysSpec.post enc Try.prog Try.f6 false true false false) := by
  refine returnsInHanded_of_change (C := Try.checked) own started (by kernel_rfl) Try.func6
    (ChangeSpec.witness6 (enc := enc) (C := Try.checked) false ⟨#[], #[.slice none 0 0, .int .i64 0, .int .i64 0, .int .i64 0], []⟩ 8 (by kernel_rfl) (by kernel_rfl) (by kernel_rfl) (by kernel_rfl)) ?_
  intro W base args ds gs before hval0 hW hcnd _
  have hval : ∀ (j : Nat) t v, Try.f6.params[j]? = some t → args[j]? = some v → Value.okWide Try.prog W .any base t v := hval0
  have hW' := hW
  obtain ⟨p, q, hA0, hV, rfl, hfz, hnd⟩ := hW
  have hA : DataW.TrodAll enc Try.prog W 0 (fun _ => true) true Try.f6.params.toList args.toList ds p := hA0
  rw [Try.params6] at hA hval
  obtain ⟨v0, vs0, d0, ds0, p0, q0, hargs, rfl, rfl, h0, r0⟩ := trodAll_cons hA
  obtain ⟨v1, vs1, d1, ds1, p1, q1, rfl, rfl, rfl, h1, r1⟩ := trodAll_cons r0
  obtain ⟨v2, vs2, d2, ds2, p2, q2, rfl, rfl, rfl, h2, r2⟩ := trodAll_cons r1
  obtain ⟨v3, vs3, d3, ds3, p3, q3, rfl, rfl, rfl, h3, r3⟩ := trodAll_cons r2
  obtain ⟨rfl, rfl, rfl⟩ := trodAll_nil r3
  obtain rfl : args = #[v0, v1, v2, v3] := by cases args; simp_all
  obtain ⟨rfl, rfl⟩ := trodVars_none hV
  obtain ⟨a0, len0, cap0, rfl⟩ := okWide_slice Try.underlying56 (hval 0 56 v0 rfl rfl)
  have k0 := h0
  have lt0 : ∀ x ∈ p0, x.block < W.heap.size := by obtain ⟨m, hm⟩ := k0; exact DataW.trod_lt m _ _ _ hm
  obtain ⟨m0, h0⟩ := h0
  obtain ⟨f, ha⟩ := open_acts h0
  obtain ⟨a1, rfl, rfl, rfl, w1⟩ := open_int Try.underlying3 (hval 1 3 v1 rfl rfl) h1
  obtain ⟨a2, rfl, rfl, rfl, w2⟩ := open_int Try.underlying3 (hval 2 3 v2 rfl rfl) h2
  obtain ⟨a3, rfl, rfl, rfl, w3⟩ := open_int Try.underlying3 (hval 3 3 v3 rfl rfl) h3
  clear hA0 hval0
  simp only [List.append_nil] at hW'
  refine (walk a0 len0 cap0 f a1 a2 a3 W ha (by have := bounds_i64 w1; omega)).mono fun e W' ⟨he, bel⟩ => ?_
  subst he
  exact ⟨_, rfl, _, _, _, [], _, [], hW', trodAll_mk1 (shut_bool Try.underlying4 _), (trodAll_cons_mk (Below.trod laidOut (by kernel_rfl) (of_decide_eq_true (by kernel_rfl)) k0 bel lt0) (trodAll_cons_mk (shut_int Try.underlying3 w1) (trodAll_cons_mk (shut_int Try.underlying3 w2) (trodAll_cons_mk (shut_int Try.underlying3 w3) trodAll_mk0)))), rfl, bel.frame _, fun h => by cases h⟩

theorem over : Rows.logPlaysRow.holds Try.pinned (OpenSpec.ofChange Rows.logPlaysSpec) :=
  OpenClaim.holds_of_wide 6 Try.f6 rfl rfl rfl rfl rfl rfl rfl ⟨rfl, rfl, rfl, rfl, rfl⟩ rfl rfl rfl rfl rfl (by kernel_rfl) Try.func6 (by kernel_rfl)
    (of_decide_eq_true (by kernel_rfl)) (by unfold Func.isWrapper; first | (rw [if_pos (by decide +kernel)]; kernel_rfl) | (rw [if_neg (by decide +kernel)]; exact ⟨rfl, rfl⟩))
    (fun os started H enc _ => lifted os started H enc)

theorem proved : Rows.LogPlaysSaid :=
  over
#print axioms proved
end Go.Proofs.Ytcmeindekbjefaa.logPlays
