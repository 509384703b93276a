/- What a node keeps, as lists: states, saves, their records, and what records tell: plain facts. No program is named. -/
import Derived.Test.YtmhgbpgbnfdokaaLogM
import Derived.Test.YtmhgbpgbnfdokaaRecM
import Derived.Test.YtmhgbpgbnfdokaaW3
namespace Go.Proofs.Ytmhgbpgbnfdokaa
open Go.RowKit

/-- a state -/
structure StP where
  t : Int
  v : Int
  es : List Ent
/-- terms from one on that don't fall, up to another one; data that aren't too long -/
def entsOk : Int → Int → List Ent → Bool
  | _, _, [] => true
  | t, T, e :: l => decide (t ≤ e.t) && decide (e.t ≤ T) && decide (e.s.size ≤ 512) && entsOk e.t T l
/-- whether a state may be -/
def rightS (s : StP) : Bool := decide (0 ≤ s.t ∧ s.t ≤ 1099511627776) && decide (-1 ≤ s.v ∧ s.v ≤ 6) && decide (s.es.length ≤ 1024) && entsOk 1 s.t s.es
theorem upT_cons (t : Int) (e : Ent) (l : List Ent) (k : Nat) (hk : k ≤ l.length) : upT t (e :: l) (k + 1) = upT e.t l k := by
  cases k with
  | zero => simp [upT]
  | succ k => rw [upT_succ _ _ _ (by simp; omega), upT_succ _ _ _ (by omega)]; simp
theorem entsOk_bad (t T : Int) (l : List Ent) (k : Nat) (hk : k < l.length) (h : ¬ (upT t l k ≤ l[k].t ∧ l[k].t ≤ T ∧ l[k].s.size ≤ 512)) : entsOk t T l = false := by
  induction l generalizing t k with
  | nil => simp at hk
  | cons e l ih =>
    unfold entsOk
    cases k with
    | zero =>
      rw [upT_zero] at h
      simp only [List.getElem_cons_zero] at h
      have : (decide (t ≤ e.t) && decide (e.t ≤ T) && decide (e.s.size ≤ 512)) = false := by
        rw [← Bool.not_eq_true, Bool.and_eq_true, Bool.and_eq_true, decide_eq_true_iff, decide_eq_true_iff, decide_eq_true_iff]
        omega
      rw [this]
      rfl
    | succ k =>
      rw [upT_cons _ _ _ _ (by simp at hk; omega)] at h
      simp only [List.getElem_cons_succ] at h
      rw [ih e.t k (by simpa using hk) h, Bool.and_false]
theorem entsOk_all (t T : Int) (l : List Ent) (h : ∀ (k : Nat) (hk : k < l.length), upT t l k ≤ l[k].t ∧ l[k].t ≤ T ∧ l[k].s.size ≤ 512) : entsOk t T l = true := by
  induction l generalizing t with
  | nil => rfl
  | cons e l ih =>
    unfold entsOk
    have h0 := h 0 (by simp)
    rw [upT_zero] at h0
    simp only [List.getElem_cons_zero] at h0
    rw [ih e.t (fun k hk => ?_), decide_eq_true h0.1, decide_eq_true h0.2.1, decide_eq_true h0.2.2]
    · rfl
    · have := h (k + 1) (by simpa using hk)
      rw [upT_cons _ _ _ _ (by omega)] at this
      simpa using this

/-! ### records -/
def intB (m : Int) : List UInt8 := be (u64n m) 8
/-- the record of a term and a vote -/
def hardR (t v : Int) : RecM := (1, intB t ++ intB v)
/-- an entry's, at an index -/
def entR (i : Int) (e : Ent) : RecM := (2, intB i ++ intB e.t ++ textBytes e.s)
/-- a save -/
structure SvP where
  hard : Bool
  t : Int
  v : Int
  f : Int
  es : List Ent
/-- the first k of a save's entries' records -/
def entsK (f : Int) (es : List Ent) (k : Nat) : List RecM := (List.range k).map fun (i : Nat) => entR (wrap64 (f + (i : Int))) (es.getD i ⟨0, ⟨#[]⟩⟩)
def recordsF (s : SvP) : List RecM := (if s.hard then [hardR s.t s.v] else []) ++ entsK s.f s.es s.es.length
theorem entsK_succ (f : Int) (es : List Ent) (k : Nat) (hk : k < es.length) : entsK f es (k + 1) = entsK f es k ++ [entR (wrap64 (f + k)) es[k]] := by
  unfold entsK
  rw [List.range_succ, List.map_append, List.map_cons, List.map_nil, List.getD_eq_getElem?_getD, List.getElem?_eq_getElem hk]
  rfl
theorem entsK_length (f : Int) (es : List Ent) (k : Nat) : (entsK f es k).length = k := by simp [entsK]
theorem recordsF_length (s : SvP) : (recordsF s).length = (if s.hard then 1 else 0) + s.es.length := by
  unfold recordsF
  rw [List.length_append, entsK_length]
  split <;> simp

/-! ### what records tell -/
def playR (s : StP) (r : RecM) : Option StP :=
  if r.1 = 1 then
    let a := (⟨r.2, false⟩ : RS).int 0 1099511627776
    let b := a.2.int (-1) 6
    if b.2.bad = false ∧ b.2.l = [] then some ⟨a.1, b.1, s.es⟩ else none
  else if r.1 = 2 then
    let a := (⟨r.2, false⟩ : RS).int 1 ((s.es.length : Int) + 1)
    let b := a.2.int 1 1099511627776
    let c := b.2.text 512
    if c.2.bad = false ∧ c.2.l = [] then some ⟨s.t, s.v, s.es.take (a.1 - 1).toNat ++ [⟨b.1, ⟨c.1.toArray⟩⟩]⟩ else none
  else none
def playL : StP → List RecM → Option StP
  | s, [] => some s
  | s, r :: l => (playR s r).bind fun s' => playL s' l
def play0 : StP := ⟨0, -1, []⟩
/-- none: not of the form -/
def playF (l : List RecM) : Option StP := (playL play0 l).bind fun s => if rightS s then some s else none
theorem playL_snoc (s : StP) (l : List RecM) (r : RecM) : playL s (l ++ [r]) = (playL s l).bind fun s' => playR s' r := by
  induction l generalizing s with
  | nil =>
    show (playR s r).bind (fun s' => some s') = playR s r
    cases playR s r <;> rfl
  | cons x l ih =>
    simp only [List.cons_append, playL]
    cases playR s x with
    | none => rfl
    | some s' => exact ih s'
theorem playL_none (s : StP) (l : List RecM) (k : Nat) (h : playL s (l.take k) = none) : playL s l = none := by
  induction l generalizing s k with
  | nil => simpa using h
  | cons x l ih =>
    cases k with
    | zero => simp [playL] at h
    | succ k =>
      simp only [List.take_succ_cons, playL] at h ⊢
      cases hx : playR s x with
      | none => rfl
      | some s' =>
        rw [hx] at h
        exact ih s' k h
end Go.Proofs.Ytmhgbpgbnfdokaa
