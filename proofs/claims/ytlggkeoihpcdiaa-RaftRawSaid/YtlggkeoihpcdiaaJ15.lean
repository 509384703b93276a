/- How arguments that are states and saves, and slices of saves, read. -/
import Derived.Lib.SmallJoins
import Derived.Test.YtlggkeoihpcdiaaJ4
import Derived.Test.YtlggkeoihpcdiaaJ7
import Derived.Test.YtlggkeoihpcdiaaJ14
namespace Go.Proofs.Ytlggkeoihpcdiaa
open Go.RowKit Go.ChangeShapes Go.WideShapes Go.ChangeAt Go.Deep Go.Joins

theorem state_cellsOf : Try.prog.cellsOf 25 = 3 := by kernel_rfl
theorem save_cellsOf : Try.prog.cellsOf 41 = 5 := by kernel_rfl
theorem bool_cellsOf : Try.prog.cellsOf 4 = 1 := by kernel_rfl
theorem ents_cellsOf : Try.prog.cellsOf 23 = 1 := by kernel_rfl
theorem array5 {cs : Array Value} (h : cs.size = 5) : ∃ a b c d e, cs = #[a, b, c, d, e] := by
  match cs, h with
  | ⟨[a, b, c, d, e]⟩, _ => exact ⟨a, b, c, d, e, rfl⟩

section
variable {H : Type} {enc : TypeId × Value → H} {w : World} {base : Nat} {spare : Nat → Bool} {held : Bool}
theorem open_ents_cell {fuel : Nat} {v : Value} {y : DataW H × List MemPlace} (h : DataW.trod enc Try.prog w base spare held fuel 23 [v] = some y) :
    ∃ A n c, v = .slice A n c ∧ n ≤ c ∧ c ≤ maxLen ∧ ∃ es : List Ent, es.length = n ∧ Ents w w.heap.size A es := by
  have e3 : ∃ A nn cc, v = .slice A nn cc := by
    rcases open_slice sl_ent h with ⟨h', _⟩ | ⟨a', l', c', _, _, _, _, h', _⟩
    · simp at h'
      exact ⟨_, _, _, h'⟩
    · simp at h'
      exact ⟨_, _, _, h'⟩
  obtain ⟨A, nn, cc, rfl⟩ := e3
  have f3' : DataW.trod enc Try.prog w base spare held fuel 23 (Value.slice A nn cc).cells.toList = some y := by simpa [Value.cells] using h
  obtain ⟨h1, h2, es, h3, h4⟩ := open_ents f3'
  exact ⟨A, nn, cc, rfl, h1, h2, es, h3, h4⟩
theorem open_bool_cell {fuel : Nat} {v : Value} {y : DataW H × List MemPlace} (h : DataW.trod enc Try.prog w base spare held fuel 4 [v] = some y) : ∃ b, v = .bool b := by
  obtain ⟨b, e0, _⟩ := DataW.trod_bool Try.underlying4 h
  simp at e0
  exact ⟨b, e0⟩
set_option maxRecDepth 100000 in
/-- a state -/
theorem open_state {r : Reach} {b0 : Nat} {v : Value} {d : DataW H} {p : List MemPlace} (hv : Value.okWide Try.prog w r b0 25 v) (h : DataW.Trod enc Try.prog w base spare held 25 v d p) :
    ∃ (s : StP) (A : Option Addr) (n c : Nat), v = .agg #[.int .i64 s.t, .int .i64 s.v, .slice A n c] ∧ n ≤ c ∧ c ≤ maxLen ∧ s.es.length = n ∧ Ents w w.heap.size A s.es := by
  obtain ⟨v0, v1, v2, y0, y1, y2, m, rfl, _, _, h0, h1, h2⟩ := open_agg3 Try.underlying25 (by kernel_rfl) state_cellsOf hv h
  obtain ⟨k0, rfl, _⟩ := open_cell_int h0
  obtain ⟨k1, rfl, _⟩ := open_cell_int h1
  obtain ⟨A, n, c, rfl, h3, h4, es, h5, h6⟩ := open_ents_cell h2
  exact ⟨⟨k0, k1, es⟩, A, n, c, rfl, h3, h4, h5, h6⟩
set_option maxRecDepth 100000 in
/-- a save: five cells -/
theorem open_save_cells {fuel : Nat} {v0 v1 v2 v3 v4 : Value} {y : DataW H × List MemPlace} (h : DataW.trod enc Try.prog w base spare held fuel 41 [v0, v1, v2, v3, v4] = some y) :
    ∃ (s : SvP) (A : Option Addr) (n c : Nat), v0 = .bool s.hard ∧ v1 = .int .i64 s.t ∧ v2 = .int .i64 s.v ∧ v3 = .int .i64 s.f ∧ v4 = .slice A n c ∧ n ≤ c ∧ c ≤ maxLen ∧ s.es.length = n ∧ Ents w w.heap.size A s.es := by
  obtain ⟨xs, n', _, _, _, hxl, hf⟩ := DataW.trod_struct Try.underlying41 h
  match xs, hxl with
  | [y0, y1, y2, y3, y4], _ =>
  have f0 := hf 0 _ rfl
  have f1 := hf 1 _ rfl
  have f2 := hf 2 _ rfl
  have f3 := hf 3 _ rfl
  have f4 := hf 4 _ rfl
  simp [bool_cellsOf, i64_cells, ents_cellsOf] at f0 f1 f2 f3 f4
  obtain ⟨b, rfl⟩ := open_bool_cell f0
  obtain ⟨k1, rfl, _⟩ := open_cell_int f1
  obtain ⟨k2, rfl, _⟩ := open_cell_int f2
  obtain ⟨k3, rfl, _⟩ := open_cell_int f3
  obtain ⟨A, n, c, rfl, h3, h4, es, h5, h6⟩ := open_ents_cell f4
  exact ⟨⟨b, k1, k2, k3, es⟩, A, n, c, rfl, rfl, rfl, rfl, rfl, h3, h4, h5, h6⟩
set_option maxRecDepth 100000 in
/-- a save -/
theorem open_save {r : Reach} {b0 : Nat} {v : Value} {d : DataW H} {p : List MemPlace} (hv : Value.okWide Try.prog w r b0 41 v) (h : DataW.Trod enc Try.prog w base spare held 41 v d p) :
    ∃ (s : SvP) (A : Option Addr) (n c : Nat), v = .agg #[.bool s.hard, .int .i64 s.t, .int .i64 s.v, .int .i64 s.f, .slice A n c] ∧ n ≤ c ∧ c ≤ maxLen ∧ s.es.length = n ∧ Ents w w.heap.size A s.es := by
  obtain ⟨cs, rfl, hsz⟩ := okWide_struct Try.underlying41 hv
  obtain ⟨c0, c1, c2, c3, c4, rfl⟩ := array5 (hsz.trans save_cellsOf)
  obtain ⟨fuel, hf⟩ := h
  have hf' : DataW.trod enc Try.prog w base spare held fuel 41 [c0, c1, c2, c3, c4] = some (d, p) := by simpa [Value.cells] using hf
  obtain ⟨s, A, n, c, rfl, rfl, rfl, rfl, rfl, h3, h4, h5, h6⟩ := open_save_cells hf'
  exact ⟨s, A, n, c, rfl, h3, h4, h5, h6⟩
end

/-- a save in memory: what it is, and where its entries lie -/
structure SvL where
  s : SvP
  A : Option Addr
  n : Nat
  c : Nat
/-- a row of saves below B -/
def SavesL (w : World) (B : Nat) (A : Option Addr) (n : Nat) (f : Nat → SvL) : Prop :=
  (∀ j, j < n → (f j).s.es.length = (f j).n ∧ (f j).n ≤ maxLen ∧ Ents w B (f j).A (f j).s.es) ∧
  (0 < n → ∃ b off, A = some ⟨b, off, none⟩ ∧ b < B ∧ ∀ j, j < n → w.cell? ⟨b, off + j * 5, none⟩ = some (.bool (f j).s.hard) ∧ w.cell? ⟨b, off + j * 5 + 1, none⟩ = some (.int .i64 (f j).s.t) ∧ w.cell? ⟨b, off + j * 5 + 2, none⟩ = some (.int .i64 (f j).s.v) ∧ w.cell? ⟨b, off + j * 5 + 3, none⟩ = some (.int .i64 (f j).s.f) ∧ w.cell? ⟨b, off + j * 5 + 4, none⟩ = some (.slice (f j).A (f j).n (f j).c))
def sv0 : SvL := ⟨⟨false, 0, 0, 0, []⟩, none, 0, 0⟩

section
variable {H : Type} {enc : TypeId × Value → H} {w : World} {base : Nat} {spare : Nat → Bool} {held : Bool}
set_option maxRecDepth 100000 in
theorem open_saves {fuel : Nat} {a : Option Addr} {len cap : Nat} {y : DataW H × List MemPlace}
    (h : DataW.trod enc Try.prog w base spare held fuel 47 (Value.slice a len cap).cells.toList = some y) :
    len ≤ cap ∧ cap ≤ maxLen ∧ ∃ f, SavesL w w.heap.size a len f := by
  rcases open_slice Try.underlying47 h with ⟨hcs, _⟩ | ⟨x, l, c, m, n, D, Pl, hcs, _, hl, hm, hmm, _, hi⟩
  · simp [Value.cells] at hcs
    obtain ⟨rfl, rfl, rfl⟩ := hcs
    exact ⟨Nat.le_refl _, by decide, fun _ => sv0, fun j hj => absurd hj (by omega), fun hn => absurd hn (by omega)⟩
  · simp [Value.cells] at hcs
    obtain ⟨rfl, rfl, rfl⟩ := hcs
    rw [save_cellsOf] at hi
    have hone : ∀ i, i < len → ∃ v : SvL, (v.s.es.length = v.n ∧ v.n ≤ maxLen ∧ Ents w w.heap.size v.A v.s.es) ∧ w.cell? ((x.add (i * 5)).add 0) = some (.bool v.s.hard) ∧ w.cell? ((x.add (i * 5)).add 1) = some (.int .i64 v.s.t) ∧ w.cell? ((x.add (i * 5)).add 2) = some (.int .i64 v.s.v) ∧ w.cell? ((x.add (i * 5)).add 3) = some (.int .i64 v.s.f) ∧ w.cell? ((x.add (i * 5)).add 4) = some (.slice v.A v.n v.c) := by
      intro i hil
      obtain ⟨cs', hc, ht⟩ := hi i (by rw [hmm]; split <;> omega)
      obtain ⟨_, hlen, hat⟩ := World.cells?_some hc
      match cs', hlen with
      | [v0, v1, v2, v3, v4], _ =>
      obtain ⟨s, A, n, c, rfl, rfl, rfl, rfl, rfl, h3, h4, h5, h6⟩ := open_save_cells ht
      exact ⟨⟨s, A, n, c⟩, ⟨h5, Nat.le_trans h3 h4, h6⟩, hat 0 (by omega), hat 1 (by omega), hat 2 (by omega), hat 3 (by omega), hat 4 (by omega)⟩
    refine ⟨hl, hm, fun i => if h : i < len then (hone i h).choose else sv0, ?_, ?_⟩
    · intro j hj
      simp only [dif_pos hj]
      exact (hone j hj).choose_spec.1
    · intro hn
      obtain ⟨b, off, spot⟩ := x
      have hspot : spot = none := by
        have := (hone 0 hn).choose_spec.2.1
        simpa [Addr.add] using World.cell?_spot this
      subst hspot
      refine ⟨b, off, rfl, World.block_lt_of_cell? w _ ((hone 0 hn).choose_spec.2.1) |> (fun h => by simpa [Addr.add] using h), fun j hj => ?_⟩
      simp only [dif_pos hj]
      have h5 := (hone j hj).choose_spec.2
      have ea : ∀ i, (Addr.add ⟨b, off, none⟩ (j * 5)).add i = ⟨b, off + j * 5 + i, none⟩ := fun i => by rw [Go.WideShapes.add_plain, Go.WideShapes.add_plain]
      exact ⟨(congrArg w.cell? (ea 0)).symm.trans h5.1, (congrArg w.cell? (ea 1)).symm.trans h5.2.1, (congrArg w.cell? (ea 2)).symm.trans h5.2.2.1, (congrArg w.cell? (ea 3)).symm.trans h5.2.2.2.1, (congrArg w.cell? (ea 4)).symm.trans h5.2.2.2.2⟩
end
end Go.Proofs.Ytlggkeoihpcdiaa

/- How an argument that is a slice of messages reads. -/
namespace Go.Proofs.Ytlggkeoihpcdiaa
open Go.RowKit Go.ChangeShapes Go.WideShapes Go.ChangeAt Go.Deep Go.Joins

theorem msg_cellsOf : Try.prog.cellsOf 61 = 9 := by kernel_rfl
section
variable {H : Type} {enc : TypeId × Value → H} {w : World} {base : Nat} {spare : Nat → Bool} {held : Bool}
set_option maxRecDepth 100000 in
/-- a message: nine cells -/
theorem open_msg_cells {fuel : Nat} {v0 v1 v2 v3 v4 v5 v6 v7 v8 : Value} {y : DataW H × List MemPlace} (h : DataW.trod enc Try.prog w base spare held fuel 61 [v0, v1, v2, v3, v4, v5, v6, v7, v8] = some y) :
    ∃ (s : MsgL), [v0, v1, v2, v3, v4, v5, v6, v7, v8] = s.cells ∧ (s.n ≤ s.c ∧ s.c ≤ maxLen ∧ s.m.es.length = s.n ∧ Ents w w.heap.size s.A s.m.es) ∧ (s.m.i ≤ 9223372036854775807 ∧ -9223372036854775808 ≤ s.m.i) ∧ (s.m.c ≤ 9223372036854775807 ∧ -9223372036854775808 ≤ s.m.c) := by
  obtain ⟨xs, n', _, _, _, hxl, hf⟩ := DataW.trod_struct Try.underlying61 h
  match xs, hxl with
  | [y0, y1, y2, y3, y4, y5, y6, y7, y8], _ =>
  have f0 := hf 0 _ rfl
  have f1 := hf 1 _ rfl
  have f2 := hf 2 _ rfl
  have f3 := hf 3 _ rfl
  have f4 := hf 4 _ rfl
  have f5 := hf 5 _ rfl
  have f6 := hf 6 _ rfl
  have f7 := hf 7 _ rfl
  have f8 := hf 8 _ rfl
  simp [bool_cellsOf, i64_cells, ents_cellsOf] at f0 f1 f2 f3 f4 f5 f6 f7 f8
  obtain ⟨k0, rfl, _⟩ := open_cell_int f0
  obtain ⟨k1, rfl, _⟩ := open_cell_int f1
  obtain ⟨k2, rfl, _⟩ := open_cell_int f2
  obtain ⟨k3, rfl, _⟩ := open_cell_int f3
  obtain ⟨k4, rfl, b4⟩ := open_cell_int f4
  obtain ⟨k5, rfl, _⟩ := open_cell_int f5
  obtain ⟨k6, rfl, b6⟩ := open_cell_int f6
  obtain ⟨b, rfl⟩ := open_bool_cell f7
  obtain ⟨A, n, c, rfl, h3, h4, es, h5, h6⟩ := open_ents_cell f8
  exact ⟨⟨⟨k0, k1, k2, k3, k4, k5, k6, b, es⟩, A, n, c⟩, rfl, ⟨h3, h4, h5, h6⟩, ⟨b4.2, b4.1⟩, ⟨b6.2, b6.1⟩⟩
end

/-- a row of messages below B -/
def MsgsL (w : World) (B : Nat) (A : Option Addr) (n : Nat) (f : Nat → MsgL) : Prop :=
  (∀ j, j < n → (f j).m.es.length = (f j).n ∧ (f j).n ≤ (f j).c ∧ (f j).c ≤ maxLen ∧ Ents w B (f j).A (f j).m.es) ∧
  (0 < n → ∃ b off, A = some ⟨b, off, none⟩ ∧ b < B ∧ ∀ j, j < n → ∀ i u, (f j).cells[i]? = some u → w.cell? ⟨b, off + j * 9 + i, none⟩ = some u)
def ml0 : MsgL := ⟨⟨0, 0, 0, 0, 0, 0, 0, false, []⟩, none, 0, 0⟩

section
variable {H : Type} {enc : TypeId × Value → H} {w : World} {base : Nat} {spare : Nat → Bool} {held : Bool}
set_option maxRecDepth 100000 in
theorem open_msgs {fuel : Nat} {a : Option Addr} {len cap : Nat} {y : DataW H × List MemPlace}
    (h : DataW.trod enc Try.prog w base spare held fuel 74 (Value.slice a len cap).cells.toList = some y) :
    len ≤ cap ∧ cap ≤ maxLen ∧ ∃ f, MsgsL w w.heap.size a len f := by
  rcases open_slice Try.underlying74 h with ⟨hcs, _⟩ | ⟨x, l, c, m, n, D, Pl, hcs, _, hl, hm, hmm, _, hi⟩
  · simp [Value.cells] at hcs
    obtain ⟨rfl, rfl, rfl⟩ := hcs
    exact ⟨Nat.le_refl _, by decide, fun _ => ml0, fun j hj => absurd hj (by omega), fun hn => absurd hn (by omega)⟩
  · simp [Value.cells] at hcs
    obtain ⟨rfl, rfl, rfl⟩ := hcs
    rw [msg_cellsOf] at hi
    have hone : ∀ i, i < len → ∃ v : MsgL, (v.m.es.length = v.n ∧ v.n ≤ v.c ∧ v.c ≤ maxLen ∧ Ents w w.heap.size v.A v.m.es) ∧ ∀ j u, v.cells[j]? = some u → w.cell? ((x.add (i * 9)).add j) = some u := by
      intro i hil
      obtain ⟨cs', hc, ht⟩ := hi i (by rw [hmm]; split <;> omega)
      obtain ⟨_, hlen, hat⟩ := World.cells?_some hc
      match cs', hlen with
      | [v0, v1, v2, v3, v4, v5, v6, v7, v8], _ =>
      obtain ⟨s, hs, ⟨h3, h4, h5, h6⟩, _, _⟩ := open_msg_cells ht
      refine ⟨s, ⟨h5, h3, h4, h6⟩, fun j u hu => ?_⟩
      rw [← hs] at hu
      have hj : j < 9 := by
        have := (List.getElem?_eq_some_iff.1 hu).1
        simpa using this
      rw [hat j (by simpa using hj)]
      exact hu
    refine ⟨hl, hm, fun i => if h : i < len then (hone i h).choose else ml0, ?_, ?_⟩
    · intro j hj
      simp only [dif_pos hj]
      exact (hone j hj).choose_spec.1
    · intro hn
      obtain ⟨b, off, spot⟩ := x
      have h00 := (hone 0 hn).choose_spec.2 0 _ rfl
      have hspot : spot = none := by
        simpa [Addr.add] using World.cell?_spot h00
      subst hspot
      refine ⟨b, off, rfl, World.block_lt_of_cell? w _ h00 |> (fun h => by simpa [Addr.add] using h), fun j hj i u hu => ?_⟩
      simp only [dif_pos hj] at hu
      have h5 := (hone j hj).choose_spec.2 i u hu
      have ea : (Addr.add ⟨b, off, none⟩ (j * 9)).add i = ⟨b, off + j * 9 + i, none⟩ := by rw [Go.WideShapes.add_plain, Go.WideShapes.add_plain]
      exact (congrArg w.cell? ea).symm.trans h5
end
end Go.Proofs.Ytlggkeoihpcdiaa
