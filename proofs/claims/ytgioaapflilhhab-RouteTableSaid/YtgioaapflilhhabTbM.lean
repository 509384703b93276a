/- RouteTable: what is known of the table, the maps and the rows while both are appended to, in whatever order. -/
import Derived.Test.YtgioaapflilhhabFixB
import Derived.Deep.RegionHeld3
import Derived.Deep.CutBlock
namespace Go.Proofs.Ytgioaapflilhhab
open Go.RowKit

theorem sl_map : Try.prog.underlying 46 = some (.slice 25) := Try.underlying46
theorem sl_rows : Try.prog.underlying 47 = some (.slice 22) := Try.underlying47
theorem pmap_row : (Try.prog.info? 25).map (fun i => (i.zero, i.size, i.bytes)) = some (some (.pointer none), 1, 8) := by kernel_rfl
theorem prow_row : (Try.prog.info? 22).map (fun i => (i.zero, i.size, i.bytes)) = some (some (.slice none 0 0), 1, 24) := by kernel_rfl

/-- the cells of pointers -/
def ptrs (gs : List Nat) : List Value := gs.map fun g => .pointer (some ⟨g, 0, none⟩)
theorem ptrs_len (gs : List Nat) : (ptrs gs).length = gs.length := by simp [ptrs]
theorem ptrs_one (gs : List Nat) : ∀ u ∈ ptrs gs, u.oneCell' = true := by
  intro u hu
  obtain ⟨x, _, rfl⟩ := List.mem_map.1 hu
  rfl

/-- what stays the same while a round appends -/
structure TCtx where
  w0 : World
  t : Nat
  mp : Option Addr
  k : Int
  Am : Option Addr
  cm : Nat
  Ar : Option Addr
  cr : Nat
  gs : List Nat
  ls : List (List ByteArray)
  rs : List Value
  g : Nat
  l : List ByteArray
  row : Value
  ga : Nat
  less : Value

def AtA (C : TCtx) (X : World) : Option (Option Addr × Nat) → Prop
  | none => FreeN 1 X C.w0.heap.size 25 C.Am C.gs.length C.cm (ptrs C.gs)
  | some (A, c) => FreeN 1 X C.w0.heap.size 25 A (C.gs.length + 1) c (ptrs C.gs ++ [.pointer (some ⟨C.g, 0, none⟩)])
def AtB (C : TCtx) (X : World) : Option (Option Addr × Nat) → Prop
  | none => FreeN 1 X C.w0.heap.size 22 C.Ar C.gs.length C.cr C.rs
  | some (A, c) => FreeN 1 X C.w0.heap.size 22 A (C.gs.length + 1) c (C.rs ++ [C.row])
/-- all maps lie there -/
def MapsAt (X : World) (gs : List Nat) (ls : List (List ByteArray)) : Prop := ∀ (i : Nat) (h1 : i < gs.length) (h2 : i < ls.length), MapAt X gs[i] ls[i]
def InvT (C : TCtx) (X : World) (pa pb : Option (Option Addr × Nat)) : Prop :=
  AtA C X pa ∧ AtB C X pb ∧ MapsAt X C.gs C.ls ∧ MapAt X C.g C.l ∧ TabAt X C.t C.mp C.k ∧ Below C.w0.heap.size C.w0 X ∧ Blk X C.ga 49 #[C.row, C.less]

theorem AtA.on {C : TCtx} {X Y : World} {pa : Option (Option Addr × Nat)} (h : AtA C X pa) (hb : Below X.heap.size X Y) : AtA C Y pa := by
  cases pa with
  | none => exact FreeN.on h hb
  | some p => exact FreeN.on h hb
theorem AtB.on {C : TCtx} {X Y : World} {pb : Option (Option Addr × Nat)} (h : AtB C X pb) (hb : Below X.heap.size X Y) : AtB C Y pb := by
  cases pb with
  | none => exact FreeN.on h hb
  | some p => exact FreeN.on h hb
theorem MapsAt.on {X Y : World} {gs : List Nat} {ls : List (List ByteArray)} (h : MapsAt X gs ls) (hb : Below X.heap.size X Y) : MapsAt Y gs ls := fun i h1 h2 => (h i h1 h2).on hb
theorem InvT.on {C : TCtx} {X Y : World} {pa pb : Option (Option Addr × Nat)} (h : InvT C X pa pb) (hb : Below X.heap.size X Y) : InvT C Y pa pb := by
  obtain ⟨h1, h2, h3, h4, h5, h6, h7⟩ := h
  exact ⟨h1.on hb, h2.on hb, h3.on hb, h4.on hb, h5.on hb, h6.trans (hb.mono h6.size), h7.below hb h7.lt⟩
theorem InvT.alloc {C : TCtx} {X : World} {pa pb : Option (Option Addr × Nat)} (h : InvT C X pa pb) (o : Obj) : InvT C (X.alloc o) pa pb := h.on ((Below.refl _ _).alloc (Nat.le_refl _) o)
theorem InvT.cell {C : TCtx} {X : World} {pa pb : Option (Option Addr × Nat)} (h : InvT C X pa pb) : X.cell? ⟨C.ga, 0, none⟩ = some C.row := by rw [h.2.2.2.2.2.2.cell]; rfl
theorem InvT.size {C : TCtx} {X : World} {pa pb : Option (Option Addr × Nat)} (h : InvT C X pa pb) : C.w0.heap.size ≤ X.heap.size := h.2.2.2.2.2.1.size

/-- a block of maps' pointers turns -/
theorem InvT.growA {C : TCtx} {X Y : World} {pa pa' pb : Option (Option Addr × Nat)} (h : InvT C X pa pb) {row : Option Nat} (hg : X.grownBy Y row) (hr : ∀ b, row = some b → C.w0.heap.size ≤ b ∧ ∃ cs, Blk X b 25 cs) (ha : AtA C Y pa') : InvT C Y pa' pb := by
  obtain ⟨_, h2, h3, h4, h5, h6, h7⟩ := h
  have hty : ∀ T1 T2 : TypeId, 25 ≠ T1 → 25 ≠ T2 → ∀ b, row = some b → ∃ ty cs, Blk X b ty cs ∧ ty ≠ T1 ∧ ty ≠ T2 := fun T1 T2 k1 k2 b hb => by
    obtain ⟨_, cs, hB⟩ := hr b hb
    exact ⟨_, cs, hB, k1, k2⟩
  refine ⟨ha, ?_, fun i k1 k2 => (h3 i k1 k2).grown hg (hty _ _ (by decide) (by decide)), h4.grown hg (hty _ _ (by decide) (by decide)), h5.grown hg (hty _ _ (by decide) (by decide)), h6.grown hg h6.size (fun b hb => (hr b hb).1), h7.grown hg (fun e => ?_)⟩
  · have hx : ∀ {A : Option Addr} {n c : Nat} {xs : List Value}, FreeN 1 X C.w0.heap.size 22 A n c xs → FreeN 1 Y C.w0.heap.size 22 A n c xs := fun hf => hf.grown hg (fun k hk e => by
      obtain ⟨_, cs, hB⟩ := hr k e.symm
      obtain ⟨_, cur, hB2⟩ := hf.foot_at k hk
      exact hB2.apart hB (by decide) rfl)
    cases pb with
    | none => exact hx h2
    | some p => exact hx h2
  · obtain ⟨_, cs, hB⟩ := hr _ e.symm
    exact h7.apart hB (by decide) rfl
theorem InvT.growB {C : TCtx} {X Y : World} {pa pb pb' : Option (Option Addr × Nat)} (h : InvT C X pa pb) {row : Option Nat} (hg : X.grownBy Y row) (hr : ∀ b, row = some b → C.w0.heap.size ≤ b ∧ ∃ cs, Blk X b 22 cs) (hb' : AtB C Y pb') : InvT C Y pa pb' := by
  obtain ⟨h1, _, h3, h4, h5, h6, h7⟩ := h
  have hty : ∀ T1 T2 : TypeId, 22 ≠ T1 → 22 ≠ T2 → ∀ b, row = some b → ∃ ty cs, Blk X b ty cs ∧ ty ≠ T1 ∧ ty ≠ T2 := fun T1 T2 k1 k2 b hb => by
    obtain ⟨_, cs, hB⟩ := hr b hb
    exact ⟨_, cs, hB, k1, k2⟩
  refine ⟨?_, hb', fun i k1 k2 => (h3 i k1 k2).grown hg (hty _ _ (by decide) (by decide)), h4.grown hg (hty _ _ (by decide) (by decide)), h5.grown hg (hty _ _ (by decide) (by decide)), h6.grown hg h6.size (fun b hb => (hr b hb).1), h7.grown hg (fun e => ?_)⟩
  · have hx : ∀ {A : Option Addr} {n c : Nat} {xs : List Value}, FreeN 1 X C.w0.heap.size 25 A n c xs → FreeN 1 Y C.w0.heap.size 25 A n c xs := fun hf => hf.grown hg (fun k hk e => by
      obtain ⟨_, cs, hB⟩ := hr k e.symm
      obtain ⟨_, cur, hB2⟩ := hf.foot_at k hk
      exact hB2.apart hB (by decide) rfl)
    cases pa with
    | none => exact hx h1
    | some p => exact hx h1
  · obtain ⟨_, cs, hB⟩ := hr _ e.symm
    exact h7.apart hB (by decide) rfl

/-- the table turns to a new map -/
theorem InvT.turn {C : TCtx} {X Y : World} (h : InvT C X none none) (hg : X.grownBy Y (some C.t)) (hle : C.w0.heap.size ≤ C.t) (mp : Option Addr) (k : Int) (ht : TabAt Y C.t mp k) (g : Nat) (l : List ByteArray) (hm : MapAt X g l) :
    InvT { C with mp := mp, k := k, g := g, l := l } Y none none := by
  obtain ⟨h1, h2, h3, _, h5, h6, h7⟩ := h
  obtain ⟨nb, hT, _⟩ := id h5
  refine ⟨?_, ?_, fun i k1 k2 => (h3 i k1 k2).turned hg h5, hm.turned hg h5, ht, h6.grown hg h6.size (fun b hb => by injection hb with hb; omega), h7.grown hg (fun e => ?_)⟩
  · exact FreeN.grown h1 hg (fun k hk e => by
      injection e with e
      obtain ⟨_, cur, hB⟩ := FreeN.foot_at h1 k hk
      exact hB.apart hT (by decide) e)
  · exact FreeN.grown h2 hg (fun k hk e => by
      injection e with e
      obtain ⟨_, cur, hB⟩ := FreeN.foot_at h2 k hk
      exact hB.apart hT (by decide) e)
  · injection e with e
    exact h7.apart hT (by decide) e
/-- the newest map's pointer -/
theorem last_ptr {X : World} {base c : Nat} {A : Option Addr} {gr : List Nat} {g : Nat} {n : Nat} (hn : n = gr.length + 1) (h : FreeN 1 X base 25 A n c (ptrs gr ++ [.pointer (some ⟨g, 0, none⟩)])) : ∃ b off, A = some ⟨b, off, none⟩ ∧ X.cell? ⟨b, off + gr.length, none⟩ = some (.pointer (some ⟨g, 0, none⟩)) := by
  have hs := h.sees
  rw [Nat.mul_one] at hs
  obtain ⟨b, off, u, h1, _, h3, h4⟩ := hs.at_ (k := gr.length) (by omega)
  rw [List.getElem?_append_right (by rw [ptrs_len]; omega), ptrs_len] at h3
  simp at h3
  subst h3
  exact ⟨b, off, h1, h4⟩

section
variable {ops : Array Oper} {o : Oper} {a : Act} {w : World} {K : Act → World → Prop} {Q : Exit → Act → World → Prop} {E : Prop}
/-- a map's pointer is appended -/
theorem step_mapA (C : TCtx) (X : World) {pb : Option (Option Addr × Nat)} (gA gB : Nat) (hg : o.guard = none) (s x : Operand) (ho : o.op = Op.call { callee := Callee.builtin Builtin.append, args := #[s, x], argTypes := #[46, 46] })
    (hw : w.os = X.os ∧ w.tape = X.tape ∧ w.output = X.output ∧ w.heap = X.heap) (hI : InvT C X none pb) (hA : Blk X gA 25 #[.pointer (some ⟨C.g, 0, none⟩)]) (m : Nat) (hmm : C.gs.length = m) (hm : m ≤ 1000)
    (hs : a.eval s = .slice C.Am m C.cm) (hx : a.eval x = .slice (some ⟨gA, 0, none⟩) 1 1)
    (h : ∀ A' c' w', InvT C w' (some (A', c')) pb → (∀ cs, Blk X gB 22 cs → Blk w' gB 22 cs) → K (a.put o.dst (.slice A' (m + 1) c')) w') :
    if Region.wanted o (yielded ops a.tmps) = true then Oper.wp Try.prog o a w K Q else E := by
  subst hmm
  obtain ⟨i0, hi0, hz0, hz1, hz2⟩ := info_parts pmap_row
  obtain ⟨e1, e2, e3, e4⟩ := hw
  have hfX : FreeN 1 X C.w0.heap.size 25 C.Am C.gs.length C.cm (ptrs C.gs) := hI.1
  refine step_append_freeN (sz := 1) hg s x _ ho C.w0.heap.size 25 i0 _ 8 sl_map hi0 hz0 hz1 hz2 rfl (by decide) C.Am C.gs.length C.cm (ptrs C.gs) hs ?_ X.heap.size (some ⟨gA, 0, none⟩) 1 1 [.pointer (some ⟨C.g, 0, none⟩)] hx ?_ (fun u hu => by rw [List.mem_singleton] at hu; subst hu; rfl) (Nat.le_trans (show C.gs.length + 1 ≤ 1001 by omega) (by decide)) (by omega) (by rw [e4]; exact hI.size) ?_
  · exact hfX.keep fun k _ => by rw [e4]
  · refine ⟨rfl, fun _ => ⟨gA, 0, rfl, hA.lt, fun j u hu => ?_⟩⟩
    have hj : j = 0 := by
      have := (List.getElem?_eq_some_iff.1 hu).1
      simpa using this
    subst hj
    have hc : w.cell? ⟨gA, 0, none⟩ = X.cell? ⟨gA, 0, none⟩ := by unfold World.cell?; rw [e4]
    rw [Nat.zero_add, hc, hA.cell]
    simpa using hu
  · intro A' c' w' hap
    have hap2 := hap.same (W := w) (w := X) e1 e2 e3 e4
    refine h A' c' w' (hI.growA hap2.2.1 (fun b hb => hfX.foot_at b hb) hap2.1) (fun cs hB => hB.grown hap2.2.1 (fun e => ?_))
    obtain ⟨_, cur, hB2⟩ := hfX.foot_at _ e.symm
    exact hB.apart hB2 (by decide) rfl
/-- a row is appended -/
theorem step_mapB (C : TCtx) (X : World) {pa : Option (Option Addr × Nat)} (gB gA : Nat) (hg : o.guard = none) (s x : Operand) (ho : o.op = Op.call { callee := Callee.builtin Builtin.append, args := #[s, x], argTypes := #[47, 47] })
    (hw : w.os = X.os ∧ w.tape = X.tape ∧ w.output = X.output ∧ w.heap = X.heap) (hI : InvT C X pa none) (hB : Blk X gB 22 #[C.row]) (h1 : C.row.oneCell' = true) (m : Nat) (hmm : C.gs.length = m) (hm : m ≤ 1000)
    (hs : a.eval s = .slice C.Ar m C.cr) (hx : a.eval x = .slice (some ⟨gB, 0, none⟩) 1 1)
    (h : ∀ A' c' w', InvT C w' pa (some (A', c')) → (∀ cs, Blk X gA 25 cs → Blk w' gA 25 cs) → K (a.put o.dst (.slice A' (m + 1) c')) w') :
    if Region.wanted o (yielded ops a.tmps) = true then Oper.wp Try.prog o a w K Q else E := by
  subst hmm
  obtain ⟨i0, hi0, hz0, hz1, hz2⟩ := info_parts prow_row
  obtain ⟨e1, e2, e3, e4⟩ := hw
  have hfX : FreeN 1 X C.w0.heap.size 22 C.Ar C.gs.length C.cr C.rs := hI.2.1
  refine step_append_freeN (sz := 1) hg s x _ ho C.w0.heap.size 22 i0 _ 24 sl_rows hi0 hz0 hz1 hz2 rfl (by decide) C.Ar C.gs.length C.cr C.rs hs ?_ X.heap.size (some ⟨gB, 0, none⟩) 1 1 [C.row] hx ?_ (fun u hu => by rw [List.mem_singleton] at hu; subst hu; exact h1) (Nat.le_trans (show C.gs.length + 1 ≤ 1001 by omega) (by decide)) (by omega) (by rw [e4]; exact hI.size) ?_
  · exact hfX.keep fun k _ => by rw [e4]
  · refine ⟨rfl, fun _ => ⟨gB, 0, rfl, hB.lt, fun j u hu => ?_⟩⟩
    have hj : j = 0 := by
      have := (List.getElem?_eq_some_iff.1 hu).1
      simpa using this
    subst hj
    have hc : w.cell? ⟨gB, 0, none⟩ = X.cell? ⟨gB, 0, none⟩ := by unfold World.cell?; rw [e4]
    rw [Nat.zero_add, hc, hB.cell]
    simpa using hu
  · intro A' c' w' hap
    have hap2 := hap.same (W := w) (w := X) e1 e2 e3 e4
    refine h A' c' w' (hI.growB hap2.2.1 (fun b hb => hfX.foot_at b hb) hap2.1) (fun cs hA => hA.grown hap2.2.1 (fun e => ?_))
    obtain ⟨_, cur, hB2⟩ := hfX.foot_at _ e.symm
    exact hA.apart hB2 (by decide) rfl
end
end Go.Proofs.Ytgioaapflilhhab
