/- How a net lies in memory: a block that holds a slice of its things, of one cell each. No program is named. -/
import Derived.Test.YtgioaapflilhhabRow
import Derived.Lib.SliceRun
import Derived.ProofKit
namespace Go.Proofs.Ytgioaapflilhhab
open Go.RowKit

/-- the net that lies in block g; f: the block of its things that may be written, if any -/
def NetAt (tn te : TypeId) (w : World) (base g : Nat) (f : Option Nat) (xs : List Value) : Prop :=
  ∃ A c, Blk w g tn #[.slice A xs.length c] ∧ base ≤ g ∧ FreeN 1 w base te A xs.length c xs ∧ f = foot A c
/-- what changes a net -/
def NetMoves (tn te : TypeId) (w : World) (base g : Nat) (f : Option Nat) (xs : List Value) (w' : World) : Prop :=
  ∃ f', NetAt tn te w' base g f' xs ∧ Moved g f w w' ∧ (f' = f ∨ f' = none ∨ ∃ k, f' = some k ∧ w.heap.size ≤ k)
section
variable {tn te : TypeId} {w w' : World} {base g : Nat} {f : Option Nat} {xs ys : List Value}
theorem NetAt.lt (h : NetAt tn te w base g f xs) : g < w.heap.size := by
  obtain ⟨A, c, h1, _⟩ := h
  exact h1.lt
theorem NetAt.base_le (h : NetAt tn te w base g f xs) : base ≤ g := by
  obtain ⟨A, c, _, h1, _⟩ := h
  exact h1
theorem NetAt.foot_at (h : NetAt tn te w base g f xs) : ∀ k, f = some k → base ≤ k ∧ ∃ cur, Blk w k te cur := by
  obtain ⟨A, c, _, _, h3, rfl⟩ := h
  exact h3.foot_at
theorem NetAt.keep (h : NetAt tn te w base g f xs) (hg : w'.heap[g]? = w.heap[g]?) (hk : ∀ k, f = some k → w'.heap[k]? = w.heap[k]?) : NetAt tn te w' base g f xs := by
  obtain ⟨A, c, h1, h2, h3, rfl⟩ := h
  exact ⟨A, c, hg.trans h1, h2, h3.keep hk, rfl⟩
theorem NetAt.on (h : NetAt tn te w base g f xs) (hb : Below w.heap.size w w') : NetAt tn te w' base g f xs :=
  h.keep (hb.block _ h.lt) (fun k hk => by obtain ⟨_, _, hB⟩ := h.foot_at k hk; exact hb.block _ hB.lt)
theorem NetAt.grown {row : Option Nat} (h : NetAt tn te w base g f xs) (hg : w.grownBy w' row) (h1 : some g ≠ row) (h2 : ∀ k, f = some k → some k ≠ row) : NetAt tn te w' base g f xs :=
  h.keep (hg.block _ h.lt h1) (fun k hk => by obtain ⟨_, _, hB⟩ := h.foot_at k hk; exact hg.block _ hB.lt (h2 k hk))
theorem NetMoves.same (h : NetAt tn te w base g f xs) : NetMoves tn te w base g f xs w := ⟨f, h, Moved.refl _ _ _, .inl rfl⟩
theorem NetMoves.on (h : NetAt tn te w base g f xs) (hb : Below w.heap.size w w') : NetMoves tn te w base g f xs w' := ⟨f, h.on hb, (Moved.refl _ _ _).on hb, .inl rfl⟩
theorem NetMoves.below {B : Nat} (h : NetMoves tn te w base g f ys w') (h0 : NetAt tn te w base g f xs) (hb : B ≤ base) (hB : B ≤ w.heap.size) : Below B w w' := by
  obtain ⟨f', _, hm, _⟩ := h
  exact hm.below (Nat.le_trans hb h0.base_le) (fun k hk => Nat.le_trans hb (h0.foot_at k hk).1) hB
theorem NetMoves.drew (h : NetMoves tn te w base g f xs w') : NetMoves tn te w base g f xs w'.drew := by
  obtain ⟨f', h1, h2, h3⟩ := h
  exact ⟨f', h1, h2.drew, h3⟩
theorem NetMoves.behind {w0 : World} (hb : Below w0.heap.size w0 w) (h : NetMoves tn te w base g f xs w') : NetMoves tn te w0 base g f xs w' := by
  obtain ⟨f', h1, h2, h3⟩ := h
  exact ⟨f', h1, h2.behind hb, h3.imp id (fun h => h.imp id (fun ⟨k, hk, hs⟩ => ⟨k, hk, Nat.le_trans hb.size hs⟩))⟩
theorem NetMoves.step {B : Nat} {w0 : World} (hB0 : B ≤ w0.heap.size) (hb : Below B w0 w) (h0 : NetAt tn te w base g f xs) (hbb : B ≤ base) (h : NetMoves tn te w base g f ys w') : ∃ f', NetAt tn te w' base g f' ys ∧ Below B w0 w' := by
  have h2 := h.below h0 hbb (Nat.le_trans hB0 hb.size)
  obtain ⟨f', h1, _, _⟩ := h
  exact ⟨f', h1, hb.trans h2⟩
/-- what is known of a net's cell -/
theorem NetAt.cell (h : NetAt tn te w base g f xs) : ∃ A c, w.cell? ⟨g, 0, none⟩ = some (.slice A xs.length c) ∧ w.frozen? ⟨g, 0, none⟩ = false ∧ Blk w g tn #[.slice A xs.length c] ∧ base ≤ g ∧ FreeN 1 w base te A xs.length c xs ∧ f = foot A c := by
  obtain ⟨A, c, h1, h2, h3, h4⟩ := h
  exact ⟨A, c, by rw [h1.cell]; rfl, h1.frozen 0, h1, h2, h3, h4⟩
/-- its slice is stored anew: cut out of the old one, or grown by an append -/
theorem NetAt.stored (hne : tn ≠ te) {A A' : Option Addr} {n c c' n' : Nat} (hb : Blk w g tn #[.slice A n c]) (hg : base ≤ g) (hf : FreeN 1 w base te A n c xs) (hgr : w.grownBy w' (foot A c)) (hf' : FreeN 1 w' base te A' n' c' ys) (hA : foot A' c' = foot A c ∨ foot A' c' = none ∨ ∃ k, foot A' c' = some k ∧ w.heap.size ≤ k) (hn : n' = ys.length) :
    w'.cell? ⟨g, 0, none⟩ = some (.slice A n c) ∧ w'.frozen? ⟨g, 0, none⟩ = false ∧ NetMoves tn te w base g (foot A c) ys (w'.setCell ⟨g, 0, none⟩ (.slice A' n' c')) := by
  subst hn
  have hfr : ∀ k, foot A c = some k → k ≠ g := fun k hk => by
    obtain ⟨_, cur, hB⟩ := hf.foot_at k hk
    exact hB.apart hb (Ne.symm hne)
  have hb' : Blk w' g tn #[.slice A n c] := hb.grown hgr (fun e => hfr g e.symm rfl)
  refine ⟨by rw [hb'.cell]; rfl, hb'.frozen 0, foot A' c', ⟨A', c', hb'.set_ 0 _, hg, hf'.far (p := ⟨g, 0, none⟩) (fun k hk => ?_) _, rfl⟩, (Moved.refl g _ w).grown hgr (fun k hk => .inl hk) |>.set_ 0 _, hA⟩
  obtain ⟨_, cur, hB⟩ := hf'.foot_at k hk
  exact hB.apart hb' (Ne.symm hne)
end
theorem wrap_near {i : Int} (h0 : 0 ≤ i) (h1 : i ≤ 1048576) : IntKind.i64.wrap (i + 1) = i + 1 := by rw [IntKind.wrap_i64]; omega
theorem drop_take_erase {α : Type} (xs : List α) (i : Nat) : xs.take i ++ xs.drop (i + 1) = xs.eraseIdx i := (List.eraseIdx_eq_take_drop_succ xs i).symm
end Go.Proofs.Ytgioaapflilhhab
