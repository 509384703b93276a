/- Entries, and what the calls of package log tell of a row of them: plain facts. No program is named. -/
import Derived.Test.YtgioaapflilhhabRow
namespace Go.Proofs.Ytgioaapflilhhab
open Go.RowKit

theorem wr_i64 {z : Int} (h0 : 0 ≤ z) (h : z ≤ 4611686018427387904) : IntKind.i64.wrap z = z := by rw [IntKind.wrap_i64]; omega
theorem wr_64 {z : Int} (h0 : 0 ≤ z) (h : z ≤ 4611686018427387904) : wrap64 z = z := by unfold wrap64; omega

/-- an entry: its term, and its data -/
structure Ent where
  t : Int
  s : ByteArray
def Ent.cells (e : Ent) : List Value := [.int .i64 e.t, .string e.s]
def Ent.v (e : Ent) : Value := .agg #[.int .i64 e.t, .string e.s]
/-- the cells of a row of entries -/
def ecs (es : List Ent) : List Value := es.flatMap Ent.cells
theorem ecs_nil : ecs [] = [] := rfl
theorem ecs_cons (e : Ent) (es : List Ent) : ecs (e :: es) = .int .i64 e.t :: .string e.s :: ecs es := rfl
theorem ecs_append (a b : List Ent) : ecs (a ++ b) = ecs a ++ ecs b := by simp [ecs]
theorem ecs_length (es : List Ent) : (ecs es).length = es.length * 2 := by
  induction es with
  | nil => rfl
  | cons e es ih => rw [ecs_cons]; simp only [List.length_cons]; omega
theorem ecs_get : ∀ (es : List Ent) (j : Nat) (hj : j < es.length), (ecs es)[j * 2]? = some (.int .i64 es[j].t) ∧ (ecs es)[j * 2 + 1]? = some (.string es[j].s)
  | e :: es, 0, _ => ⟨rfl, rfl⟩
  | e :: es, j + 1, hj => by
    have ih := ecs_get es j (by simpa using hj)
    rw [ecs_cons, show (j + 1) * 2 = j * 2 + 1 + 1 from by omega, show j * 2 + 1 + 1 + 1 = (j * 2 + 1) + 1 + 1 from by omega]
    simp only [List.getElem?_cons_succ, List.getElem_cons_succ]
    exact ih
theorem ecs_one (es : List Ent) : ∀ u ∈ ecs es, u.oneCell' = true := by
  intro u hu
  obtain ⟨e, _, he⟩ := List.mem_flatMap.1 hu
  simp only [Ent.cells, List.mem_cons, List.not_mem_nil, or_false] at he
  rcases he with rfl | rfl <;> rfl
theorem ecs_take (es : List Ent) (k : Nat) : (ecs es).take (k * 2) = ecs (es.take k) := by
  induction es generalizing k with
  | nil => simp [ecs]
  | cons e es ih =>
    cases k with
    | zero => simp [ecs]
    | succ k => rw [ecs_cons, show (k + 1) * 2 = k * 2 + 1 + 1 from by omega, List.take_succ_cons, List.take_succ_cons, ih]; rfl
theorem ecs_drop (es : List Ent) (k : Nat) : (ecs es).drop (k * 2) = ecs (es.drop k) := by
  induction es generalizing k with
  | nil => simp [ecs]
  | cons e es ih =>
    cases k with
    | zero => simp
    | succ k => rw [ecs_cons, show (k + 1) * 2 = k * 2 + 1 + 1 from by omega, List.drop_succ_cons, List.drop_succ_cons, ih]; rfl

/-- a row of entries that can be read -/
def Ents (w : World) (B : Nat) (A : Option Addr) (es : List Ent) : Prop := Sees w B A (es.length * 2) (ecs es)
theorem Ents.at_ {w : World} {B : Nat} {A : Option Addr} {es : List Ent} (h : Ents w B A es) {j : Nat} (hj : j < es.length) :
    ∃ b off, A = some ⟨b, off, none⟩ ∧ b < B ∧ w.cell? ⟨b, off + j * 2, none⟩ = some (.int .i64 es[j].t) ∧ w.cell? ⟨b, off + j * 2 + 1, none⟩ = some (.string es[j].s) := by
  obtain ⟨b, off, hA, hb, hc⟩ := h.2 (by omega)
  obtain ⟨g1, g2⟩ := ecs_get es j hj
  exact ⟨b, off, hA, hb, hc _ _ g1, by rw [show off + j * 2 + 1 = off + (j * 2 + 1) from by omega]; exact hc _ _ g2⟩
theorem Ents.nil (w : World) (B : Nat) (A : Option Addr) : Ents w B A [] := Sees.none_ _ _ _
/-- 's[k:]' -/
theorem Ents.drop {w : World} {B n c k : Nat} {A : Option Addr} {es : List Ent} (h : Ents w B A es) (hn : es.length = n) (hk : k ≤ n) (hc : n ≤ c) : Ents w B (if c = k then A else A.map (·.add (k * 2))) (es.drop k) := by
  unfold Ents at *
  have hl : (es.drop k).length = n - k := by rw [List.length_drop, hn]
  rw [hl, ← ecs_drop]
  rw [hn] at h
  rcases Nat.eq_zero_or_pos (n - k) with h0 | h0
  · rw [h0]
    have : (ecs es).drop (k * 2) = [] := by apply List.drop_eq_nil_of_le; rw [ecs_length]; omega
    rw [this]
    exact Sees.none_ _ _ _
  · have h1 := Sees.drop (cap := n * 2) h (k := k * 2) (by omega) (Nat.le_refl _)
    rw [if_neg (by omega)] at h1
    rw [if_neg (by omega), Nat.sub_mul]
    exact h1
theorem Ents.take {w : World} {B k : Nat} {A : Option Addr} {es : List Ent} (h : Ents w B A es) (hk : k ≤ es.length) : Ents w B A (es.take k) := by
  unfold Ents at *
  have hl : (es.take k).length = k := by rw [List.length_take]; omega
  rw [hl, ← ecs_take]
  exact Sees.take h (by omega)

/-! ### what the calls tell -/
def termF (es : List Ent) (i : Int) : Int × Bool :=
  if i < 0 ∨ (es.length : Int) < i then (0, false) else if i = 0 then (0, true) else (((es[(i - 1).toNat]?).map Ent.t).getD 0, true)
def lastT (es : List Ent) : Int := (termF es es.length).1
/-- terms that don't fall, from one on -/
def fallF : Int → List Ent → Bool
  | _, [] => false
  | t, e :: l => decide (e.t < t) || fallF e.t l
def fitsF (es : List Ent) (i t : Int) (l : List Ent) : Nat :=
  if (termF es i).2 = false then 6 else if (termF es i).1 ≠ t then 8 else if fallF t l then 5 else 0
/-- how many of the first ones stand behind place i already -/
def thereF (es : List Ent) : Int → List Ent → Nat
  | _, [] => 0
  | i, e :: l => if termF es (i + 1) = (e.t, true) then thereF es (i + 1) l + 1 else 0
def putF (es : List Ent) (i t : Int) (l : List Ent) : List Ent × Int × Nat :=
  if fitsF es i t l ≠ 0 then (es, 0, fitsF es i t l)
  else if thereF es i l = l.length then (es, 0, 0)
  else if 1024 < i + l.length then (es, 0, 7)
  else (es.take (i + thereF es i l).toNat ++ l.drop (thereF es i l), i + thereF es i l + 1, 0)
def addF (es : List Ent) (e : Ent) : List Ent × Nat :=
  if e.t < lastT es then (es, 5) else if 1024 ≤ es.length then (es, 7) else (es ++ [e], 0)
def fromN (n : Nat) (i m : Int) : Int × Int := (min (max i 1 - 1) n, min (max m 0) (n - min (max i 1 - 1) n))
def fromF (es : List Ent) (i m : Int) : List Ent := (es.drop (fromN es.length i m).1.toNat).take (fromN es.length i m).2.toNat
def youngF (es : List Ent) (i t : Int) : Bool := decide (lastT es < t) || (decide (t = lastT es) && decide ((es.length : Int) ≤ i))

theorem thereF_le (es : List Ent) (i : Int) (l : List Ent) : thereF es i l ≤ l.length := by
  induction l generalizing i with
  | nil => exact Nat.le_refl _
  | cons e l ih =>
    unfold thereF
    split
    · have := ih (i + 1); simp only [List.length_cons]; omega
    · exact Nat.zero_le _
theorem termF_true {es : List Ent} {i : Int} (h : (termF es i).2 = true) : 0 ≤ i ∧ i ≤ es.length := by
  unfold termF at h
  split at h
  · cases h
  · omega
theorem thereF_bound (es : List Ent) (i : Int) (l : List Ent) (hi : i ≤ es.length) : i + thereF es i l ≤ es.length := by
  induction l generalizing i with
  | nil => unfold thereF; omega
  | cons e l ih =>
    unfold thereF
    split
    · rename_i h
      have := termF_true (es := es) (i := i + 1) (by rw [h])
      have := ih (i + 1) this.2
      omega
    · omega
theorem thereF_eq (es : List Ent) (i : Int) (l : List Ent) (k : Nat) (hk : k ≤ l.length) (h1 : ∀ (j : Nat) (hj : j < l.length), j < k → termF es (i + 1 + j) = (l[j].t, true)) (h2 : ∀ hk : k < l.length, termF es (i + 1 + k) ≠ (l[k].t, true)) : thereF es i l = k := by
  induction l generalizing i k with
  | nil => unfold thereF; simp at hk; omega
  | cons e l ih =>
    unfold thereF
    cases k with
    | zero =>
      have := h2 (by simp)
      rw [if_neg (by simpa using this)]
    | succ k =>
      have h0 := h1 0 (by simp) (by omega)
      rw [if_pos (by simpa using h0)]
      congr 1
      refine ih (i + 1) k (by simpa using hk) (fun j hj hjk => ?_) (fun hk => ?_)
      · have := h1 (j + 1) (by simpa using hj) (by omega)
        rw [show i + 1 + 1 + (j : Int) = i + 1 + ((j + 1 : Nat) : Int) from by omega]
        simpa using this
      · have := h2 (by simpa using hk)
        rw [show i + 1 + 1 + (k : Int) = i + 1 + ((k + 1 : Nat) : Int) from by omega]
        simpa using this
/-- how far the terms have been looked at: the one that the next may not be below -/
def upT (t : Int) (l : List Ent) (k : Nat) : Int := (((l.take k).getLast?).map Ent.t).getD t
theorem upT_zero (t : Int) (l : List Ent) : upT t l 0 = t := by simp [upT]
theorem upT_succ (t : Int) (l : List Ent) (k : Nat) (hk : k < l.length) : upT t l (k + 1) = l[k].t := by
  unfold upT
  rw [List.take_succ_eq_append_getElem hk, List.getLast?_concat]
  rfl
/-- terms fall, at the one that comes next -/
theorem fallF_at (t : Int) (l : List Ent) (k : Nat) (hk : k < l.length) (h : l[k].t < upT t l k) : fallF t l = true := by
  induction l generalizing t k with
  | nil => simp at hk
  | cons e l ih =>
    unfold fallF
    cases k with
    | zero =>
      rw [upT_zero] at h
      simp at h
      simp [h]
    | succ k =>
      have e1 : upT t (e :: l) (k + 1) = upT e.t l k := by
        cases k with
        | zero => simp [upT]
        | succ k =>
          have hk' : k < l.length := by simp at hk; omega
          rw [upT_succ _ _ _ (by simp; omega), upT_succ _ _ _ hk']
          simp
      rw [e1] at h
      simp only [List.getElem_cons_succ] at h
      rw [ih e.t k (by simpa using hk) h]
      simp
/-- they don't, as far as they have been looked at -/
theorem fallF_none (t : Int) (l : List Ent) (h : ∀ (k : Nat) (hk : k < l.length), upT t l k ≤ l[k].t) : fallF t l = false := by
  induction l generalizing t with
  | nil => rfl
  | cons e l ih =>
    unfold fallF
    have h0 := h 0 (by simp)
    rw [upT_zero] at h0
    simp at h0
    rw [ih e.t (fun k hk => ?_)]
    · simp; omega
    · have := h (k + 1) (by simpa using hk)
      have e1 : upT t (e :: l) (k + 1) = upT e.t l k := by
        cases k with
        | zero => simp [upT]
        | succ k =>
          rw [upT_succ _ _ _ (by simp; omega), upT_succ _ _ _ (by omega)]
          simp
      rw [e1] at this
      simpa using this
theorem termF_at {es : List Ent} {j : Nat} (hj : j < es.length) : termF es ((j : Int) + 1) = (es[j].t, true) := by
  unfold termF
  rw [if_neg (by omega), if_neg (by omega)]
  have : ((j : Int) + 1 - 1).toNat = j := by omega
  rw [this, List.getElem?_eq_getElem hj]
  rfl
theorem termF_zero (es : List Ent) : termF es 0 = (0, true) := by
  unfold termF
  rw [if_neg (by omega), if_pos rfl]
theorem termF_out {es : List Ent} {i : Int} (h : i < 0 ∨ (es.length : Int) < i) : termF es i = (0, false) := by
  unfold termF
  rw [if_pos h]
end Go.Proofs.Ytgioaapflilhhab
