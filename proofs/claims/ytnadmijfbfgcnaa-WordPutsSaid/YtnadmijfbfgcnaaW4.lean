/- The walks of package word's Reader, the rest; and of the document's own Reader. -/
import Derived.Test.YtnadmijfbfgcnaaW3
namespace Go.Proofs.Ytnadmijfbfgcnaa
open Go.RowKit

theorem one_byte (p : List UInt8) (h : p.length = 1) : ∃ x, p = [x] := by
  match p, h with
  | [x], _ => exact ⟨x, rfl⟩

set_option maxHeartbeats 800000 in
/-- Reader.Bool -/
theorem rBool_any (g : Nat) (s : RS) (w : World) (h : Rdr w g s) :
    Calls Try.prog 20 #[.pointer (some ⟨g, 0, none⟩)] w fun e w' => e = .returned (.bool s.bool.1) ∧ Rdr w' g s.bool.2 ∧ w.grownBy w' (some g) := by
  by_cases hn : s.bad = false ∧ 1 ≤ s.l.length
  · have ht := num_take_ret s 1 hn
    have hy := take_yes g 1 s w h hn.1 hn.2
    unfold Took at hy
    have h1 : (s.l.take 1).length = 1 := by rw [List.length_take]; omega
    unfold RS.bool
    rw [ht]
    simp only
    generalize hp : s.l.take 1 = p at *
    generalize s.behind 1 = s' at *
    obtain ⟨x, rfl⟩ := one_byte p h1
    have hnum : num [x] = x.toNat := by simp [num]
    rw [hnum]
    have HY := Lib.hid hy
    clear hy ht hp h hn h1 hnum
    by_cases hlo : 1 < x.toNat
    · rw [if_pos hlo]
      go_enter Try.func20, Try.ntmps20
      go_wp2_with fail
      refine HY.out.mono ?_
      rintro e w1 ⟨A, c, rfl, hs1, hr1, hg1⟩
      obtain ⟨b, off, u, rfl, _, hu, hc⟩ := hs1.at_ (k := 0) (by omega)
      simp only [cbs, List.map_cons, List.map_nil, List.getElem?_cons_zero, Option.some.injEq] at hu
      subst hu
      unfold cb at hc
      rw [Nat.add_zero] at hc
      clear hs1
      go_wp2_with (go_at_call 41; refine (fail_rdr g s' _ hr1).mono ?_; rintro e w3 ⟨rfl, hr2, hg2⟩)
      go_ret
      exact ⟨rfl, hr2, gb_trans hg1 hg2⟩
    · rw [if_neg hlo]
      have hx : x = 0 ∨ x = 1 := by
        rcases (show x.toNat = 0 ∨ x.toNat = 1 by omega) with h | h
        · exact .inl (UInt8.toNat_inj.1 h)
        · exact .inr (UInt8.toNat_inj.1 h)
      clear hlo
      rcases hx with rfl | rfl
      · go_enter Try.func20, Try.ntmps20
        go_wp2_with fail
        refine HY.out.mono ?_
        rintro e w1 ⟨A, c, rfl, hs1, hr1, hg1⟩
        obtain ⟨b, off, u, rfl, _, hu, hc'⟩ := hs1.at_ (k := 0) (by omega)
        simp only [cbs, List.map_cons, List.map_nil, List.getElem?_cons_zero, Option.some.injEq] at hu
        subst hu
        have hc : w1.cell? ⟨b, off, none⟩ = some (.int .u8 0) := hc'
        clear hs1 hc'
        go_wp2_with fail
        go_ret
        exact ⟨rfl, hr1, hg1⟩
      · go_enter Try.func20, Try.ntmps20
        go_wp2_with fail
        refine HY.out.mono ?_
        rintro e w1 ⟨A, c, rfl, hs1, hr1, hg1⟩
        obtain ⟨b, off, u, rfl, _, hu, hc'⟩ := hs1.at_ (k := 0) (by omega)
        simp only [cbs, List.map_cons, List.map_nil, List.getElem?_cons_zero, Option.some.injEq] at hu
        subst hu
        have hc : w1.cell? ⟨b, off, none⟩ = some (.int .u8 1) := hc'
        clear hs1 hc'
        go_wp2_with fail
        go_ret
        exact ⟨rfl, hr1, hg1⟩
  · have ht := num_take_none s 1 hn
    have hy := take_no g 1 s w h hn
    unfold RS.bool
    rw [ht]
    simp only
    have HY := Lib.hid hy
    clear hy ht h hn
    go_enter Try.func20, Try.ntmps20
    go_wp2_with fail
    refine HY.out.mono ?_
    rintro e w1 ⟨rfl, hr1, hg1⟩
    go_wp2_with fail
    go_ret
    exact ⟨rfl, hr1, hg1⟩

set_option maxHeartbeats 400000 in
/-- Reader.Left -/
theorem rLeft_any (g : Nat) (s : RS) (w : World) (h : Rdr w g s) :
    Calls Try.prog 21 #[.pointer (some ⟨g, 0, none⟩)] w fun e w' => e = .returned (.int .i64 (s.l.length : Int)) ∧ w' = w := by
  have HF := Lib.hid (fun W => rFail_any g s W)
  have HR := Lib.hid h
  obtain ⟨A, c, hb, _, _, _, hl, _⟩ := h
  have c0 : w.cell? ⟨g, 0, none⟩ = some (.slice A s.l.length c) := by rw [hb.cell]; rfl
  clear hb
  obtain ⟨l, bad⟩ := s
  simp only at hl c0 HF HR ⊢
  cases bad
  · clear hl
    go_enter Try.func21, Try.ntmps21
    go_wp2_with (go_at_call 18; refine (HF.out _ HR.out).mono ?_; rintro e w' ⟨rfl, rfl⟩)
    go_ret
    exact ⟨rfl, rfl⟩
  · have hl0 := hl rfl
    subst hl0
    clear hl
    go_enter Try.func21, Try.ntmps21
    go_wp2_with (go_at_call 18; refine (HF.out _ HR.out).mono ?_; rintro e w' ⟨rfl, rfl⟩)
    go_ret
    exact ⟨rfl, rfl⟩
/-- .. of nil -/
theorem rLeft_nil (w : World) :
    Calls Try.prog 21 #[.pointer none] w fun e w' => e = .returned (.int .i64 0) ∧ w' = w := by
  go_enter Try.func21, Try.ntmps21
  go_wp2_with (go_at_call 18; refine (rFail_nil _).mono ?_; rintro e w' ⟨rfl, rfl⟩)
  go_ret
  exact ⟨rfl, rfl⟩

/-- whether it is done -/
def RS.done (s : RS) : Bool := !s.bad && s.l.isEmpty

set_option maxHeartbeats 400000 in
/-- Reader.Done -/
theorem rDone_any (g : Nat) (s : RS) (w : World) (h : Rdr w g s) :
    Calls Try.prog 22 #[.pointer (some ⟨g, 0, none⟩)] w fun e w' => e = .returned (.bool s.done) ∧ w' = w := by
  have HF := Lib.hid (fun W => rFail_any g s W)
  have HR := Lib.hid h
  obtain ⟨A, c, hb, _, _, _, hl, _⟩ := h
  have c0 : w.cell? ⟨g, 0, none⟩ = some (.slice A s.l.length c) := by rw [hb.cell]; rfl
  clear hb
  obtain ⟨l, bad⟩ := s
  simp only at hl c0 HF HR ⊢
  cases bad
  · clear hl
    by_cases hz : l = []
    · subst hz
      go_enter Try.func22, Try.ntmps22
      go_wp2_with (go_at_call 18; refine (HF.out _ HR.out).mono ?_; rintro e w' ⟨rfl, rfl⟩)
      go_ret
      exact ⟨rfl, rfl⟩
    · have hlen : 0 < l.length := List.length_pos_iff.2 hz
      have hd : (RS.mk l false).done = false := by simp [RS.done, hz]
      rw [hd]
      have hne : ((l.length : Int) == 0) = false := by rw [beq_eq_false_iff_ne]; omega
      clear hd hz
      go_enter Try.func22, Try.ntmps22
      go_wp2_with (go_at_call 18; refine (HF.out _ HR.out).mono ?_; rintro e w' ⟨rfl, rfl⟩)
      go_ret
      exact ⟨rfl, rfl⟩
  · have hl0 := hl rfl
    subst hl0
    clear hl
    go_enter Try.func22, Try.ntmps22
    go_wp2_with (go_at_call 18; refine (HF.out _ HR.out).mono ?_; rintro e w' ⟨rfl, rfl⟩)
    go_ret
    exact ⟨rfl, rfl⟩

/-- Reader.take of nil -/
theorem take_nil (n : Int) (w : World) :
    Calls Try.prog 39 #[.pointer none, .int .i64 n] w fun e w' => e = .returned (.tuple #[.slice none 0 0, .bool false]) ∧ w' = w := by
  go_enter Try.func39, Try.ntmps39
  go_wp2_with (go_at_call 18; refine (rFail_nil _).mono ?_; rintro e w' ⟨rfl, rfl⟩)
  go_ret2
  exact ⟨rfl, rfl⟩
/-- Reader.Int of nil -/
theorem rInt_nil (least most : Int) (w : World) :
    Calls Try.prog 17 #[.pointer none, .int .i64 least, .int .i64 most] w fun e w' => e = .returned (.int .i64 0) ∧ w' = w := by
  go_enter Try.func17, Try.ntmps17
  go_wp2_with (go_at_call 39; refine (take_nil _ _).mono ?_; rintro e w' ⟨rfl, rfl⟩)
  go_ret
  exact ⟨rfl, rfl⟩

theorem row_own {w : World} {base n c : Nat} {A : Option Addr} {xs : List Value} (h : w.ownsRow base 5 1 (.slice A n c) n xs) {o : Obj} : RowOf (w.alloc o) A n := by
  intro hn a ha
  rcases h.2 with ⟨_, h0⟩ | ⟨g, cap, cur, hv, _, hg, _⟩
  · omega
  · have hA : A = some ⟨g, 0, none⟩ := by injection hv
    rw [hA] at ha
    injection ha with ha
    subst ha
    exact ⟨cur, _, (Below.heap_alloc w o g (Array.getElem?_eq_some_iff.1 hg).1).trans hg⟩

/-- what Read answers: a reader of its own -/
def Began (w : World) (l : List UInt8) (e : Ending) (w' : World) : Prop :=
  ∃ g, e = .returned (.pointer (some ⟨g, 0, none⟩)) ∧ Rdr w' g ⟨l, false⟩ ∧ Below w.heap.size w w' ∧ w.heap.size ≤ g

set_option maxHeartbeats 400000 in
/-- word.Read -/
theorem read_any (A : Option Addr) (n c : Nat) (l : List UInt8) (w : World) (hs : Sees w w.heap.size A n (cbs l)) (hn : n ≤ 140737488355328) :
    Calls Try.prog 16 #[.slice A n c] w (Began w l) := by
  have HC := Lib.hid (clone_any A n c l w hs hn)
  have hl : l.length = n := by have := hs.1; simpa using this
  have HL := Lib.hid hl
  clear hs hn hl
  go_enter Try.func16, Try.ntmps16
  go_wp2_with fail
  refine HC.out.mono ?_
  rintro e w1 ⟨v, rfl, hown, hb⟩
  obtain ⟨A1, c1, rfl, h1, h2⟩ := own_form hown
  have HO := Lib.hid hown
  clear hown
  go_wp2_with fail
  go_ret
  have hl := HL.out
  subst hl
  exact ⟨w1.heap.size, rfl, ⟨A1, c1, Blk.new w1 _ _, (Sees.of_own HO.out).alloc (Nat.le_refl _) _, h1, h2, fun h => (by cases h), row_own HO.out⟩, hb.alloc hb.size _, hb.size⟩
end Go.Proofs.Ytnadmijfbfgcnaa
