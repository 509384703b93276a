/- What Play answers, the program's and the document's, in one form. -/
import Derived.Test.YtmhgbpgbnfdokaaHdQ
namespace Go.Proofs.Ytmhgbpgbnfdokaa
open Go.RowKit

theorem playF_right {l : List RecM} {s : StP} (h : playF l = some s) : rightS s = true := by
  unfold playF at h
  cases hp : playL play0 l with
  | none => rw [hp] at h; cases h
  | some s' =>
    rw [hp] at h
    simp only [Option.bind_some] at h
    split at h
    · rename_i hr
      injection h with h
      rw [← h]
      exact hr
    · cases h
theorem right_len {s : StP} (h : rightS s = true) : s.es.length ≤ 1024 := by
  apply Decidable.byContradiction
  intro hn
  rw [rightS_n s hn] at h
  cases h

/-- what the program tells of records -/
def GotAns (w : World) (o : Option StP) (e : Ending) (w' : World) : Prop :=
  ∃ (g : StP) (A' : Option Addr) (n' c' : Nat) (z : Int), e = .returned (.tuple #[.agg #[.int .i64 g.t, .int .i64 g.v, .slice A' n' c'], .int .i64 z]) ∧ Ents w' w'.heap.size A' g.es ∧ g.es.length = n' ∧ n' ≤ 1024 ∧ (o = none → z = 2 ∧ g = ⟨0, 0, []⟩) ∧ (∀ s', o = some s' → z = 0 ∧ g = s') ∧ Below w.heap.size w w'
theorem got_ans {w w' : World} {l : List RecM} {e : Ending} (h : PlayAns w (playF l) e w') : GotAns w (playF l) e w' := by
  obtain ⟨hb, h⟩ := h
  cases ho : playF l with
  | none =>
    rw [ho] at h
    exact ⟨⟨0, 0, []⟩, none, 0, 0, 2, h, Ents.nil _ _ _, rfl, by decide, fun _ => ⟨rfl, rfl⟩, (fun s' h => by cases h), hb⟩
  | some s =>
    rw [ho] at h
    obtain ⟨A, n, c, he, hl, hf⟩ := h
    exact ⟨s, A, n, c, 0, he, by subst hl; exact hf.sees, hl, by have := right_len (playF_right ho); omega, (fun h => by cases h), fun s' h => (by injection h with h; exact ⟨rfl, h⟩), hb⟩
/-- what the document tells of them -/
def WantAns (w : World) (o : Option StP) (e : Ending) (w' : World) : Prop :=
  ∃ (g : StP) (A' : Option Addr) (n' c' : Nat) (q : Bool), e = .returned (.tuple #[.agg #[.int .i64 g.t, .int .i64 g.v, .slice A' n' c'], .bool q]) ∧ Ents w' w'.heap.size A' g.es ∧ g.es.length = n' ∧ n' ≤ 1024 ∧ (o = none → q = false) ∧ (∀ s', o = some s' → q = true ∧ g = s') ∧ Below w.heap.size w w'
theorem want_ans {w w' : World} {l : List RecM} {e : Ending} (h : RefAns w (playF l) e w') : WantAns w (playF l) e w' := by
  obtain ⟨hb, h⟩ := h
  cases ho : playF l with
  | none =>
    rw [ho] at h
    exact ⟨⟨0, 0, []⟩, none, 0, 0, false, h, Ents.nil _ _ _, rfl, by decide, fun _ => rfl, (fun s' h => by cases h), hb⟩
  | some s =>
    rw [ho] at h
    obtain ⟨A, n, c, he, hl, hf⟩ := h
    exact ⟨s, A, n, c, true, he, by subst hl; exact hf.sees, hl, by have := right_len (playF_right ho); omega, (fun h => by cases h), fun s' h => (by injection h with h; exact ⟨rfl, h⟩), hb⟩
theorem Blk3 {w : World} {g : Nat} {t : TypeId} {a b c : Value} (h : Blk w g t #[a, b, c]) : w.cell? ⟨g, 0, none⟩ = some a ∧ w.cell? ⟨g, 1, none⟩ = some b ∧ w.cell? ⟨g, 2, none⟩ = some c := ⟨by rw [h.cell]; rfl, by rw [h.cell]; rfl, by rw [h.cell]; rfl⟩

/-- what the program tells of a disk, but for the memory -/
theorem got_out {base : Nat} {w' : World} {l : List RecM} {e : Ending} (h : PlayOut base (playF l) e w') :
    ∃ (g : StP) (A' : Option Addr) (n' c' : Nat) (z : Int), e = .returned (.tuple #[.agg #[.int .i64 g.t, .int .i64 g.v, .slice A' n' c'], .int .i64 z]) ∧ Ents w' w'.heap.size A' g.es ∧ g.es.length = n' ∧ n' ≤ 1024 ∧ (playF l = none → z = 2 ∧ g = ⟨0, 0, []⟩) ∧ (∀ s', playF l = some s' → z = 0 ∧ g = s') := by
  unfold PlayOut at h
  cases ho : playF l with
  | none =>
    rw [ho] at h
    exact ⟨⟨0, 0, []⟩, none, 0, 0, 2, h, Ents.nil _ _ _, rfl, by decide, fun _ => ⟨rfl, rfl⟩, (fun s' h => by cases h)⟩
  | some s =>
    rw [ho] at h
    obtain ⟨A, n, c, he, hl, hf⟩ := h
    exact ⟨s, A, n, c, 0, he, by subst hl; exact hf.sees, hl, by have := right_len (playF_right ho); omega, (fun h => by cases h), fun s' h => (by injection h with h; exact ⟨rfl, h⟩)⟩
end Go.Proofs.Ytmhgbpgbnfdokaa
