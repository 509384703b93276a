/- The walks of package word's Reader, the rest; and of the document's own Reader. -/
import Derived.Test.YtmhgbpgbnfdokaaW3
namespace Go.Proofs.Ytmhgbpgbnfdokaa
open Go.RowKit

theorem one_byte (p : List UInt8) (h : p.length = 1) : ∃ x, p = [x] := by
  match p, h with
  | [x], _ => exact ⟨x, rfl⟩

/-- whether it is done -/
def RS.done (s : RS) : Bool := !s.bad && s.l.isEmpty

set_option maxRecDepth 100000 in
set_option maxHeartbeats 400000 in
/-- Reader.Done -/
theorem rDone_any (g : Nat) (s : RS) (w : World) (h : Rdr w g s) :
    Calls Try.prog 94 #[.pointer (some ⟨g, 0, none⟩)] w fun e w' => e = .returned (.bool s.done) ∧ w' = w := by
  have HF := Lib.hid (fun W => rFail_any g s W)
  have HR := Lib.hid h
  obtain ⟨A, c, hb, _, _, _, hl, _⟩ := h
  have c0 : w.cell? ⟨g, 0, none⟩ = some (.slice A s.l.length c) := by rw [hb.cell]; rfl
  clear hb
  obtain ⟨l, bad⟩ := s
  simp only at hl c0 HF HR ⊢
  cases bad
  · clear hl
    by_cases hz : l = []
    · subst hz
      go_enter Try.func94, Try.ntmps94
      go_wp2_with (go_at_call 113; refine (HF.out _ HR.out).mono ?_; rintro e w' ⟨rfl, rfl⟩)
      go_ret
      exact ⟨rfl, rfl⟩
    · have hlen : 0 < l.length := List.length_pos_iff.2 hz
      have hd : (RS.mk l false).done = false := by simp [RS.done, hz]
      rw [hd]
      have hne : ((l.length : Int) == 0) = false := by rw [beq_eq_false_iff_ne]; omega
      clear hd hz
      go_enter Try.func94, Try.ntmps94
      go_wp2_with (go_at_call 113; refine (HF.out _ HR.out).mono ?_; rintro e w' ⟨rfl, rfl⟩)
      go_ret
      exact ⟨rfl, rfl⟩
  · have hl0 := hl rfl
    subst hl0
    clear hl
    go_enter Try.func94, Try.ntmps94
    go_wp2_with (go_at_call 113; refine (HF.out _ HR.out).mono ?_; rintro e w' ⟨rfl, rfl⟩)
    go_ret
    exact ⟨rfl, rfl⟩

set_option maxRecDepth 100000 in
/-- Reader.take of nil -/
theorem take_nil (n : Int) (w : World) :
    Calls Try.prog 110 #[.pointer none, .int .i64 n] w fun e w' => e = .returned (.tuple #[.slice none 0 0, .bool false]) ∧ w' = w := by
  go_enter Try.func110, Try.ntmps110
  go_wp2_with (go_at_call 113; refine (rFail_nil _).mono ?_; rintro e w' ⟨rfl, rfl⟩)
  go_ret2
  exact ⟨rfl, rfl⟩
set_option maxRecDepth 100000 in
/-- Reader.Int of nil -/
theorem rInt_nil (least most : Int) (w : World) :
    Calls Try.prog 93 #[.pointer none, .int .i64 least, .int .i64 most] w fun e w' => e = .returned (.int .i64 0) ∧ w' = w := by
  go_enter Try.func93, Try.ntmps93
  go_wp2_with (go_at_call 110; refine (take_nil _ _).mono ?_; rintro e w' ⟨rfl, rfl⟩)
  go_ret
  exact ⟨rfl, rfl⟩

theorem row_own {w : World} {base n c : Nat} {A : Option Addr} {xs : List Value} (h : w.ownsRow base 5 1 (.slice A n c) n xs) {o : Obj} : RowOf (w.alloc o) A n := by
  intro hn a ha
  rcases h.2 with ⟨_, h0⟩ | ⟨g, cap, cur, hv, _, hg, _⟩
  · omega
  · have hA : A = some ⟨g, 0, none⟩ := by injection hv
    rw [hA] at ha
    injection ha with ha
    subst ha
    exact ⟨cur, _, (Below.heap_alloc w o g (Array.getElem?_eq_some_iff.1 hg).1).trans hg⟩

/-- what Read answers: a reader of its own -/
def Began (w : World) (l : List UInt8) (e : Ending) (w' : World) : Prop :=
  ∃ g, e = .returned (.pointer (some ⟨g, 0, none⟩)) ∧ Rdr w' g ⟨l, false⟩ ∧ Below w.heap.size w w' ∧ w.heap.size ≤ g

set_option maxRecDepth 100000 in
set_option maxHeartbeats 400000 in
/-- word.Read -/
theorem read_any (A : Option Addr) (n c : Nat) (l : List UInt8) (w : World) (hs : Sees w w.heap.size A n (cbs l)) (hn : n ≤ 140737488355328) :
    Calls Try.prog 66 #[.slice A n c] w (Began w l) := by
  have HC := Lib.hid (clone_any A n c l w hs hn)
  have hl : l.length = n := by have := hs.1; simpa using this
  have HL := Lib.hid hl
  clear hs hn hl
  go_enter Try.func66, Try.ntmps66
  go_wp2_with fail
  refine HC.out.mono ?_
  rintro e w1 ⟨v, rfl, hown, hb⟩
  obtain ⟨A1, c1, rfl, h1, h2⟩ := own_form hown
  have HO := Lib.hid hown
  clear hown
  go_wp2_with fail
  go_ret
  have hl := HL.out
  subst hl
  exact ⟨w1.heap.size, rfl, ⟨A1, c1, Blk.new w1 _ _, (Sees.of_own HO.out).alloc (Nat.le_refl _) _, h1, h2, fun h => (by cases h), row_own HO.out⟩, hb.alloc hb.size _, hb.size⟩
end Go.Proofs.Ytmhgbpgbnfdokaa
