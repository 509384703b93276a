/- For NetPlays: a net beside a plain row of the same numbers, and what of both a call leaves. -/
import Derived.Test.YtpgohajnohebnabFix9
namespace Go.Proofs.Ytpgohajnohebnab
open Go.RowKit

/-- a net, and a plain row of numbers, in blocks of their own -/
structure TwoN (base g : Nat) (f : Option Nat) (A : Option Addr) (n c : Nat) (l r : List Int) (w : World) : Prop where
  net : iNet w base g f l
  len : r.length = n
  row : FreeN 1 w base 3 A n c (ics r)
  apart : ∀ q, foot A c = some q → f ≠ some q
section
variable {base g n c : Nat} {f : Option Nat} {A : Option Addr} {l r l2 r2 : List Int} {w w' : World}
theorem TwoN.on (h : TwoN base g f A n c l r w) (hb : Below w.heap.size w w') : TwoN base g f A n c l r w' := ⟨NetAt.on h.net hb, h.len, h.row.on hb, h.apart⟩
theorem TwoN.foot_lt (h : TwoN base g f A n c l r w) : ∀ q, f = some q → q < w.heap.size := fun q hq => by obtain ⟨_, _, hb⟩ := NetAt.foot_at h.net q hq; exact hb.lt
theorem TwoN.gblk (h : TwoN base g f A n c l r w) : ∃ cs, Blk w g 45 cs := by
  obtain ⟨A1, c1, hb, _⟩ := h.net
  exact ⟨_, hb⟩
/-- the row grows -/
theorem TwoN.grows (h : TwoN base g f A n c l r w) {m c' : Nat} {A' : Option Addr} (hm : r2.length = m) (ha : AppendedN 1 w base 3 A n c (ics r) m (ics r2) A' c' w') : TwoN base g f A' (n + m) c' l (r ++ r2) w' := by
  obtain ⟨h1, h2, h3⟩ := ha
  obtain ⟨gcs, hgb⟩ := h.gblk
  have hgf : some g ≠ foot A c := fun e => by
    obtain ⟨_, cur, hB⟩ := h.row.foot_at g e.symm
    exact hB.apart hgb (by decide) rfl
  refine ⟨NetAt.grown h.net h2 hgf (fun k hk e => h.apart k e.symm hk), by rw [List.length_append, h.len, hm], by rw [ics_app]; exact h1, fun q hq e => ?_⟩
  rcases h3 with h3 | ⟨k, hk, hk2⟩
  · exact h.apart q (by rw [← h3]; exact hq) e
  · rw [hk] at hq
    injection hq with hq
    subst hq
    have := h.foot_lt _ e
    omega
/-- the row is another one, in new memory -/
theorem TwoN.other (h : TwoN base g f A n c l r w) {A' : Option Addr} {n' c' : Nat} (hn : r2.length = n') (hf : FreeN 1 w' w.heap.size 3 A' n' c' (ics r2)) (hB : base ≤ w.heap.size) (hb : Below w.heap.size w w') : TwoN base g f A' n' c' l r2 w' := by
  refine ⟨NetAt.on h.net hb, hn, hf.mono hB, fun q hq e => ?_⟩
  have h1 := (hf.foot_at q hq).1
  have := h.foot_lt _ e
  omega
/-- no row -/
theorem TwoN.empty (h : TwoN base g f A n c l r w) : TwoN base g f none 0 0 l [] w := ⟨h.net, rfl, FreeN.nil _ _ _ _, fun q hq => by simp [foot] at hq⟩
/-- the net changes -/
theorem TwoN.moves (h : TwoN base g f A n c l r w) (hm : iMoves w base g f l2 w') : ∃ f', TwoN base g f' A n c l2 r w' := by
  obtain ⟨f', h1, h2, h3⟩ := hm
  obtain ⟨gcs, hgb⟩ := h.gblk
  have hlt : ∀ q, foot A c = some q → q < w.heap.size := fun q hq => by obtain ⟨_, _, hB⟩ := h.row.foot_at q hq; exact hB.lt
  have hne : ∀ q, foot A c = some q → q ≠ g := fun q hq => by
    obtain ⟨_, cur, hB⟩ := h.row.foot_at q hq
    exact hB.apart hgb (by decide)
  refine ⟨f', h1, h.len, h.row.keep (fun k hk => h2.block k (hlt k hk) (hne k hk) (fun e => h.apart k hk e.symm)), fun q hq e => ?_⟩
  rcases h3 with rfl | rfl | ⟨k, rfl, hk⟩
  · exact h.apart q hq e
  · cases e
  · injection e with e
    have := hlt q hq
    omega
theorem TwoN.below (h : TwoN base g f A n c l r w) (hm : iMoves w base g f l2 w') (hB : base ≤ w.heap.size) : Below base w w' := NetMoves.below hm h.net (Nat.le_refl _) hB
/-- a block of another type stays as it is, where the net changes -/
theorem TwoN.keeps (h : TwoN base g f A n c l r w) (hm : iMoves w base g f l2 w') {k : Nat} {t : TypeId} {cs : Array Value} (hb : Blk w k t cs) (h1 : t ≠ 45) (h2 : t ≠ 3) : Blk w' k t cs := by
  obtain ⟨f', _, h3, _⟩ := hm
  obtain ⟨gcs, hgb⟩ := h.gblk
  refine h3.blk hb (hb.apart hgb h1) (fun e => ?_)
  obtain ⟨_, cur, hB⟩ := NetAt.foot_at h.net k e.symm
  exact hb.apart hB h2 rfl
/-- .. and where the row grows -/
theorem AppendedN.keeps {m c' : Nat} {A' : Option Addr} {news xs : List Value} (ha : AppendedN 1 w base 3 A n c xs m news A' c' w') (hr : FreeN 1 w base 3 A n c xs) {k : Nat} {t : TypeId} {cs : Array Value} (hb : Blk w k t cs) (h2 : t ≠ 3) : Blk w' k t cs := by
  refine hb.grown ha.2.1 (fun e => ?_)
  obtain ⟨_, cur, hB⟩ := hr.foot_at k e.symm
  exact hb.apart hB h2 rfl
end
theorem sent_ok (l : List Int) (v : Int) (h : l.length < 512) : sendFi l v = (l ++ [v], 0) := if_neg (by omega)
theorem ics_take (l : List Int) (i : Nat) : (ics l).take i = ics (l.take i) := by simp [ics]
theorem ics_drop (l : List Int) (i : Nat) : (ics l).drop i = ics (l.drop i) := by simp [ics]
theorem NetAt.mono {tn te : TypeId} {w : World} {base base' g : Nat} {f : Option Nat} {xs : List Value} (h : NetAt tn te w base g f xs) (hb : base' ≤ base) : NetAt tn te w base' g f xs := by
  obtain ⟨A, c, h1, h2, h3, h4⟩ := h
  exact ⟨A, c, h1, Nat.le_trans hb h2, h3.mono hb, h4⟩
/-- what stands ahead of place i in a row, and what stands from place j on -/
theorem row_parts {w : World} {base n c b off : Nat} {l : List Int} (h : FreeN 1 w base 3 (some ⟨b, off, none⟩) n c (ics l)) (i j : Nat) (hi : i < n) (hj : j ≤ n) :
    Sees w w.heap.size (some ⟨b, off, none⟩) (i * 1) (ics (l.take i)) ∧ Sees w w.heap.size (if c = j then some ⟨b, off, none⟩ else some ⟨b, off + j, none⟩) ((n - j) * 1) (ics (l.drop j)) := by
  obtain ⟨g, off2, cur, hA, hg, hB, hs, hx⟩ := h.2.2.2 (by have := h.2.1; omega)
  injection hA with hA
  injection hA with e1 e2
  subst e1
  subst e2
  have hxl := h.1
  constructor
  · refine ⟨by rw [← ics_take, List.length_take]; omega, fun h0 => ⟨b, off, rfl, hB.lt, fun q u hu => ?_⟩⟩
    rw [← ics_take, List.getElem?_take] at hu
    split at hu
    · rw [hB.cell, hx q (by omega)]
      exact hu
    · cases hu
  · refine ⟨by rw [← ics_drop, List.length_drop]; omega, fun h0 => ⟨b, off + j, ?_, hB.lt, fun q u hu => ?_⟩⟩
    · rw [if_neg (by have := h.2.1; omega)]
    · rw [← ics_drop, List.getElem?_drop] at hu
      have hq := (List.getElem?_eq_some_iff.1 hu).1
      rw [Nat.add_assoc, hB.cell, hx (j + q) (by omega)]
      exact hu
/-- an act in a block of its own -/
theorem act_cells {w : World} {G : Nat} {kd X ai : Int} (h : Blk w G 28 #[.int .u8 kd, .int .i64 X, .int .i64 ai]) : w.cell? ⟨G, 0, none⟩ = some (.int .u8 kd) ∧ w.cell? ⟨G, 1, none⟩ = some (.int .i64 X) ∧ w.cell? ⟨G, 2, none⟩ = some (.int .i64 ai) := ⟨by rw [h.cell]; rfl, by rw [h.cell]; rfl, by rw [h.cell]; rfl⟩
end Go.Proofs.Ytpgohajnohebnab
