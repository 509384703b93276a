/- DiskPlays, the closing part: how its argument is read out of memory, and the statement. -/
import Derived.Test.YtnbkphdkpncjfaaDp
import Derived.Test.YtnbkphdkpncjfaaOpen
import Derived.ProofKit
import Derived.Deep.Slices
import Derived.OpenShut
namespace Go.Proofs.Ytnbkphdkpncjfaa.diskPlays
open Go.ChangeShapes Go.WideShapes Go.ChangeAt Go.RowKit Go.Deep
set_option linter.unusedVariables false
theorem act_cells : Try.prog.cellsOf 73 = 5 := by kernel_rfl
theorem u8_cells' : Try.prog.cellsOf 5 = 1 := by kernel_rfl
theorem i64_cells' : Try.prog.cellsOf 3 = 1 := by kernel_rfl
theorem sl_cells' : Try.prog.cellsOf 23 = 1 := by kernel_rfl

section
variable {H : Type} {enc : TypeId × Value → H} {w : World} {base : Nat} {spare : Nat → Bool} {held : Bool}
set_option maxRecDepth 100000 in
theorem open_acts {fuel : Nat} {a : Option Addr} {len cap : Nat} {y : DataW H × List MemPlace}
    (h : DataW.trod enc Try.prog w base spare held fuel 69 (Value.slice a len cap).cells.toList = some y) :
    len ≤ maxLen ∧ ∃ f, Acts w w.heap.size a len f := by
  rcases open_slice Try.underlying69 h with ⟨hcs, _⟩ | ⟨x, l, c, m, n, D, Pl, hcs, _, hl, hm, hmm, _, hi⟩
  · simp [Value.cells] at hcs
    obtain ⟨rfl, rfl, rfl⟩ := hcs
    exact ⟨by decide, fun _ => ⟨0, none, 0, 0, [], 0, 0, 0⟩, fun j hj => absurd hj (by omega), fun hn => absurd hn (by omega)⟩
  · simp [Value.cells] at hcs
    obtain ⟨rfl, rfl, rfl⟩ := hcs
    rw [act_cells] at hi
    have hone : ∀ i, i < len → ∃ v : ActV, (0 ≤ v.kind ∧ v.kind ≤ 255 ∧ Sees w w.heap.size v.A v.n (cbs v.l) ∧ v.n ≤ maxLen) ∧ w.cell? ((x.add (i * 5)).add 0) = some (.int .u8 v.kind) ∧ w.cell? ((x.add (i * 5)).add 1) = some (.slice v.A v.n v.c) ∧ w.cell? ((x.add (i * 5)).add 2) = some (.int .i64 v.keep) ∧ w.cell? ((x.add (i * 5)).add 3) = some (.int .i64 v.at_) ∧ w.cell? ((x.add (i * 5)).add 4) = some (.int .u8 (v.by_.toNat : Int)) := by
      intro i hil
      obtain ⟨cs', hc, ht⟩ := hi i (by rw [hmm]; split <;> omega)
      obtain ⟨_, hlen, hat⟩ := World.cells?_some hc
      obtain ⟨xs, n', _, _, _, hxl, hf⟩ := DataW.trod_struct Try.underlying73 ht
      match cs', hlen with
      | [v0, v1, v2, v3, v4], _ =>
      match xs, hxl with
      | [y0, y1, y2, y3, y4], _ =>
      have f0 := hf 0 _ rfl
      have f1 := hf 1 _ rfl
      have f2 := hf 2 _ rfl
      have f3 := hf 3 _ rfl
      have f4 := hf 4 _ rfl
      simp [u8_cells', i64_cells', sl_cells'] at f0 f1 f2 f3 f4
      obtain ⟨k, e0, _, w0⟩ := DataW.trod_int Try.underlying5 f0
      obtain ⟨kp, e2, _, w2⟩ := DataW.trod_int Try.underlying3 f2
      obtain ⟨at_, e3, _, w3⟩ := DataW.trod_int Try.underlying3 f3
      obtain ⟨z, e4, _, w4⟩ := DataW.trod_int Try.underlying5 f4
      simp at e0 e2 e3 e4
      subst e0 e2 e3 e4
      have e1 : ∃ A nn cc, v1 = .slice A nn cc := by
        rcases open_slice Try.underlying23 f1 with ⟨h', _⟩ | ⟨a', l', c', _, _, _, _, h', _⟩
        · simp at h'
          exact ⟨_, _, _, h'⟩
        · simp at h'
          exact ⟨_, _, _, h'⟩
      obtain ⟨A, nn, cc, rfl⟩ := e1
      have f1' : DataW.trod enc Try.prog w base spare held n' 23 (Value.slice A nn cc).cells.toList = some y1 := by simpa [Value.cells] using f1
      obtain ⟨hnc, hcm, lb, hsb⟩ := open_bytes Try.underlying23 Try.underlying5 u8_cells' f1'
      have hb := bounds_u8 w0
      refine ⟨⟨k, A, nn, cc, lb, kp, at_, UInt8.ofNat z.toNat⟩, ⟨hb.1, hb.2, hsb, Nat.le_trans hnc hcm⟩, hat 0 (by omega), hat 1 (by omega), hat 2 (by omega), hat 3 (by omega), ?_⟩
      exact (hat 4 (by omega)).trans (congrArg some (byte_of w4))
    refine ⟨Nat.le_trans hl hm, fun i => if h : i < len then (hone i h).choose else ⟨0, none, 0, 0, [], 0, 0, 0⟩, ?_, ?_⟩
    · intro j hj
      simp only [dif_pos hj]
      exact (hone j hj).choose_spec.1
    · intro hn
      obtain ⟨b, off, spot⟩ := x
      have hspot : spot = none := by
        have := (hone 0 hn).choose_spec.2.1
        simpa [Addr.add] using World.cell?_spot this
      subst hspot
      refine ⟨b, off, rfl, World.block_lt_of_cell? w _ ((hone 0 hn).choose_spec.2.1) |> (fun h => by simpa [Addr.add] using h), fun j hj => ?_⟩
      simp only [dif_pos hj]
      have h5 := (hone j hj).choose_spec.2
      have ea : ∀ i, (Addr.add ⟨b, off, none⟩ (j * 5)).add i = ⟨b, off + j * 5 + i, none⟩ := fun i => by rw [Go.WideShapes.add_plain, Go.WideShapes.add_plain]
      exact ⟨(congrArg w.cell? (ea 0)).symm.trans h5.1, (congrArg w.cell? (ea 1)).symm.trans h5.2.1, (congrArg w.cell? (ea 2)).symm.trans h5.2.2.1, (congrArg w.cell? (ea 3)).symm.trans h5.2.2.2.1, (congrArg w.cell? (ea 4)).symm.trans h5.2.2.2.2⟩
end

set_option maxRecDepth 100000 in
theorem lifted (os : Os) (started : os.Started) (H : Type) (enc : TypeId × Value → H) :
    ReturnsInHanded {} Try.checked os 12 .any (Rows.diskPlaysSpec.pre6 enc Try.prog Try.f12 Rows.diskPlaysRow.domain false) (Rows.diskPlaysSpec.post enc Try.prog Try.f12 false true false false) := by
  refine returnsInHanded_of_change (C := Try.checked) own started (by kernel_rfl) Try.func12
    (ChangeSpec.witness6 (enc := enc) (C := Try.checked) false ⟨#[], #[.slice none 0 0], []⟩ 8 (by kernel_rfl) (by kernel_rfl) (by kernel_rfl) (by kernel_rfl)) ?_
  intro W base args ds gs before hval0 hW hcnd _
  have hval : ∀ (j : Nat) t v, Try.f12.params[j]? = some t → args[j]? = some v → Value.okWide Try.prog W .any base t v := hval0
  have hW' := hW
  obtain ⟨p, q, hA0, hV, rfl, hfz, hnd⟩ := hW
  have hA : DataW.TrodAll enc Try.prog W 0 (fun _ => true) true Try.f12.params.toList args.toList ds p := hA0
  rw [Try.params12] at hA hval
  obtain ⟨v0, vs0, d0, ds0, p0, q0, hargs, rfl, rfl, h0, r0⟩ := trodAll_cons hA
  obtain ⟨rfl, rfl, rfl⟩ := trodAll_nil r0
  obtain rfl : args = #[v0] := by cases args; simp_all
  obtain ⟨rfl, rfl⟩ := trodVars_none hV
  obtain ⟨a0, len0, cap0, rfl⟩ := okWide_slice Try.underlying69 (hval 0 69 v0 rfl rfl)
  have k0 := h0
  have lt0 : ∀ x ∈ p0, x.block < W.heap.size := by obtain ⟨m, hm⟩ := k0; exact DataW.trod_lt m _ _ _ hm
  obtain ⟨m0, h0⟩ := h0
  obtain ⟨hl0, f, ha⟩ := open_acts h0
  clear hA0 hval0
  refine (walk a0 len0 cap0 f W ha hl0).mono fun e W' ⟨he, bel⟩ => ?_
  subst he
  exact ⟨_, rfl, _, _, _, [], _, [], hW', trodAll_mk1 (shut_bool Try.underlying4 _), (trodAll_cons_mk (Below.trod laidOut (by kernel_rfl) (of_decide_eq_true (by kernel_rfl)) k0 bel lt0) trodAll_mk0), rfl, bel.frame _, fun h => by cases h⟩

theorem over : Rows.diskPlaysRow.holds Try.pinned (OpenSpec.ofChange Rows.diskPlaysSpec) :=
  OpenClaim.holds_of_wide 12 Try.f12 rfl rfl rfl rfl rfl rfl rfl ⟨rfl, rfl, rfl, rfl, rfl⟩ rfl rfl rfl rfl rfl (by kernel_rfl) Try.func12 (by kernel_rfl)
    (of_decide_eq_true (by kernel_rfl)) (by unfold Func.isWrapper; first | (rw [if_pos (by decide +kernel)]; kernel_rfl) | (rw [if_neg (by decide +kernel)]; exact ⟨rfl, rfl⟩))
    (fun os started H enc _ => lifted os started H enc)

theorem proved : Rows.DiskPlaysSaid :=
  over
#print axioms proved
end Go.Proofs.Ytnbkphdkpncjfaa.diskPlays
