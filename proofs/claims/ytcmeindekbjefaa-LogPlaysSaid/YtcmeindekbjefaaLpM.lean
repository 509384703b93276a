/- For LogPlays: a log beside a plain row, what of both a call leaves; the last readings, as numbers. -/
import Derived.Test.YtcmeindekbjefaaPut7
import Derived.Test.YtcmeindekbjefaaFix7
namespace Go.Proofs.Ytcmeindekbjefaa
open Go.RowKit

/-- a log, and a plain row of the same entries, in blocks of their own -/
structure Two (base g : Nat) (f : Option Nat) (A : Option Addr) (n c : Nat) (es es' : List Ent) (w : World) : Prop where
  log : LogAt w base g f es
  len : es'.length = n
  row : FreeN 2 w base 62 A n c (ecs es')
  apart : ∀ q, foot A c = some q → f ≠ some q
section
variable {base g n c : Nat} {f : Option Nat} {A : Option Addr} {es es' : List Ent} {w w' : World}
theorem Two.on (h : Two base g f A n c es es' w) (hb : Below w.heap.size w w') : Two base g f A n c es es' w' := ⟨h.log.on hb, h.len, h.row.on hb, h.apart⟩
theorem Two.foot_lt (h : Two base g f A n c es es' w) : ∀ q, f = some q → q < w.heap.size := fun q hq => by obtain ⟨_, _, hb⟩ := h.log.foot_at q hq; exact hb.lt
/-- the row grows -/
theorem Two.grows (h : Two base g f A n c es es' w) {m c' : Nat} {l : List Ent} {A' : Option Addr} (hm : l.length = m) (ha : AppendedN 2 w base 62 A n c (ecs es') m (ecs l) A' c' w') : Two base g f A' (n + m) c' es (es' ++ l) w' := by
  obtain ⟨h1, h2, h3⟩ := ha
  have hgf : some g ≠ foot A c := fun e => by
    obtain ⟨A1, c1, hbk, _⟩ := h.log
    obtain ⟨_, cur, hB⟩ := h.row.foot_at g e.symm
    exact hB.apart hbk (by decide) rfl
  refine ⟨h.log.grown h2 hgf (fun k hk e => h.apart k e.symm hk), by rw [List.length_append, h.len, hm], by rw [ecs_append]; exact h1, fun q hq e => ?_⟩
  rcases h3 with h3 | ⟨k, hk, hk2⟩
  · exact h.apart q (by rw [← h3]; exact hq) e
  · rw [hk] at hq
    injection hq with hq
    subst hq
    have := h.foot_lt _ e
    omega
/-- the row is another one -/
theorem Two.other (h : Two base g f A n c es es' w) {r : List Ent × Int × Nat} {A' : Option Addr} {n' c' : Nat} (hn : r.1.length = n') (hf : FreeN 2 w' base 62 A' n' c' (ecs r.1)) (hk : foot A' c' = foot A c ∨ ∃ k, foot A' c' = some k ∧ w.heap.size ≤ k) (hb : Below w.heap.size w w') : Two base g f A' n' c' es r.1 w' := by
  refine ⟨h.log.on hb, hn, hf, fun q hq e => ?_⟩
  rcases hk with hk | ⟨k, hk, hk2⟩
  · exact h.apart q (by rw [← hk]; exact hq) e
  · rw [hk] at hq
    injection hq with hq
    subst hq
    have := h.foot_lt _ e
    omega
/-- the log changes -/
theorem Two.moves (h : Two base g f A n c es es' w) {es2 : List Ent} (hm : LogMoves w base g f es2 w') : ∃ f', Two base g f' A n c es2 es' w' := by
  obtain ⟨f', h1, h2, h3⟩ := hm
  have hlt : ∀ q, foot A c = some q → q < w.heap.size := fun q hq => by obtain ⟨_, _, hB⟩ := h.row.foot_at q hq; exact hB.lt
  have hne : ∀ q, foot A c = some q → q ≠ g := fun q hq => by
    obtain ⟨A1, c1, hbk, _⟩ := h.log
    obtain ⟨_, cur, hB⟩ := h.row.foot_at q hq
    exact hB.apart hbk (by decide)
  refine ⟨f', h1, h.len, h.row.keep (fun k hk => h2.block k (hlt k hk) (hne k hk) (fun e => h.apart k hk e.symm)), fun q hq e => ?_⟩
  rcases h3 with rfl | rfl | ⟨k, rfl, hk⟩
  · exact h.apart q hq e
  · cases e
  · injection e with e
    have := hlt q hq
    omega
theorem Two.below (h : Two base g f A n c es es' w) {es2 : List Ent} (hm : LogMoves w base g f es2 w') (hB : base ≤ w.heap.size) : Below base w w' := hm.below h.log (Nat.le_refl _) hB
theorem Two.ents (h : Two base g f A n c es es' w) : Ents w w.heap.size A es' := by unfold Ents; rw [h.len]; exact h.row.sees
end

theorem lastT_nil : lastT [] = 0 := rfl
theorem lastT_succ (es : List Ent) (j : Nat) (h : es.length = j + 1) : lastT es = (es[j]'(by omega)).t := by
  unfold lastT
  have h1 := termF_at (es := es) (j := j) (by omega)
  have e : ((es.length : Nat) : Int) = (j : Int) + 1 := by omega
  rw [e, h1]
theorem upT_all (es : List Ent) : upT 0 es es.length = lastT es := by
  cases h : es.length with
  | zero =>
    have : es = [] := List.eq_nil_of_length_eq_zero h
    subst this
    rfl
  | succ j => rw [upT_succ 0 es j (by omega), lastT_succ es j h]
/-- the term of an index, as far as the row has been looked at -/
def seekT (es : List Ent) (i : Int) (k : Nat) : Int := if 1 ≤ i ∧ i ≤ k then ((es[(i - 1).toNat]?).map Ent.t).getD 0 else 0
theorem seekT_zero (es : List Ent) (i : Int) : seekT es i 0 = 0 := by unfold seekT; rw [if_neg (by omega)]
theorem seekT_hit (es : List Ent) (i : Int) (k : Nat) (hk : k < es.length) (h : (k : Int) + 1 = i) : seekT es i (k + 1) = es[k].t := by
  unfold seekT
  rw [if_pos (by omega), show (i - 1).toNat = k from by omega, List.getElem?_eq_getElem hk]
  rfl
theorem seekT_miss (es : List Ent) (i : Int) (k : Nat) (h : (k : Int) + 1 ≠ i) : seekT es i (k + 1) = seekT es i k := by
  unfold seekT
  by_cases h1 : 1 ≤ i ∧ i ≤ k
  · rw [if_pos h1, if_pos (by omega)]
  · rw [if_neg h1, if_neg (by omega)]
theorem seekT_all (es : List Ent) (i : Int) : (termF es i).1 = seekT es i es.length := by
  unfold termF seekT
  by_cases h : i < 0 ∨ (es.length : Int) < i
  · rw [if_pos h, if_neg (by omega)]
  · rw [if_neg h]
    by_cases h0 : i = 0
    · rw [if_pos h0, if_neg (by omega)]
    · rw [if_neg h0, if_pos (by omega)]
theorem termF_ok (es : List Ent) (i : Int) : (termF es i).2 = (decide (0 ≤ i) && decide (i ≤ (es.length : Int))) := by
  unfold termF
  by_cases h : i < 0 ∨ (es.length : Int) < i
  · rw [if_pos h]
    rcases h with h | h
    · rw [decide_eq_false (show ¬ 0 ≤ i by omega)]; rfl
    · rw [decide_eq_false (show ¬ i ≤ (es.length : Int) by omega), Bool.and_false]
  · rw [if_neg h, decide_eq_true (show 0 ≤ i by omega), decide_eq_true (show i ≤ (es.length : Int) by omega)]
    split <;> rfl
/-- the part from an index on, by place: as long as it goes -/
theorem fromF_go (es : List Ent) (i m : Int) (j : Nat) : (j < (fromF es i m).length ↔ (max i 1 + (j : Int) ≤ (es.length : Int) ∧ (j : Int) < m)) := by
  obtain ⟨k, q, hk, hq, hkq⟩ := fromN_nat es.length i m
  have hl : (fromF es i m).length = q := by
    unfold fromF
    rw [hk, hq, Int.toNat_natCast, Int.toNat_natCast, List.length_take, List.length_drop]
    omega
  rw [hl]
  unfold fromN at hk hq
  simp only at hk hq
  rw [hk] at hq
  omega
theorem fromF_get (es : List Ent) (i m : Int) (j : Nat) (hj : j < (fromF es i m).length) : ∃ p : Nat, ∃ hp : p < es.length, (p : Int) + 1 = max i 1 + (j : Int) ∧ (fromF es i m)[j] = es[p] := by
  have hgo := (fromF_go es i m j).1 hj
  obtain ⟨k, q, hk, hq, hkq⟩ := fromN_nat es.length i m
  have hl : (fromF es i m).length = q := by
    unfold fromF
    rw [hk, hq, Int.toNat_natCast, Int.toNat_natCast, List.length_take, List.length_drop]
    omega
  have hjq : j < q := by omega
  refine ⟨k + j, by omega, ?_, ?_⟩
  · unfold fromN at hk
    simp only at hk
    omega
  · unfold fromF
    simp only [hk, hq, Int.toNat_natCast, List.getElem_take, List.getElem_drop]
end Go.Proofs.Ytcmeindekbjefaa
