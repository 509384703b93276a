/- The walks of package word's Reader: it goes over bytes as a plain machine does. -/
import Derived.Test.YtmhgbpgbnfdokaaW2
namespace Go.Proofs.Ytmhgbpgbnfdokaa
open Go.RowKit

/-- what is left, and whether it failed -/
structure RS where
  l : List UInt8
  bad : Bool
def RS.failed : RS := ⟨[], true⟩
/-- the next n bytes, if they are all there -/
def RS.take (s : RS) (n : Nat) : Option (List UInt8) := if s.bad = false ∧ n ≤ s.l.length then some (s.l.take n) else none
def RS.behind (s : RS) (n : Nat) : RS := if s.bad = false ∧ n ≤ s.l.length then ⟨s.l.drop n, false⟩ else RS.failed
def RS.int (s : RS) (least most : Int) : Int × RS :=
  match s.take 8 with
  | none => (0, RS.failed)
  | some p => if wrap64 (num p) < least ∨ most < wrap64 (num p) then (0, RS.failed) else (wrap64 (num p), s.behind 8)
def RS.text (s : RS) (most : Int) : List UInt8 × RS :=
  match s.take 2 with
  | none => ([], RS.failed)
  | some p => if most < (num p : Int) then ([], RS.failed) else
    match (s.behind 2).take (num p) with
    | none => ([], RS.failed)
    | some q => (q, (s.behind 2).behind (num p))
def RS.bool (s : RS) : Bool × RS :=
  match s.take 1 with
  | none => (false, RS.failed)
  | some p => if 1 < num p then (false, RS.failed) else (num p == 1, s.behind 1)

/-- a row that is not empty has bytes for elements -/
def RowOf (w : World) (A : Option Addr) (n : Nat) : Prop := 0 < n → ∀ a, A = some a → ∃ cs fr, w.heap[a.block]? = some (.cells cs 5 fr)

/-- the reader that lies in block g -/
def Rdr (w : World) (g : Nat) (s : RS) : Prop :=
  ∃ A c, Blk w g 141 #[.slice A s.l.length c, .bool s.bad] ∧ Sees w g A s.l.length (cbs s.l) ∧ s.l.length ≤ c ∧ c ≤ maxLen ∧ (s.bad = true → s.l = []) ∧ RowOf w A s.l.length
theorem Rdr.failed_ {w : World} {g : Nat} (h : Blk w g 141 #[.slice none 0 0, .bool true]) : Rdr w g RS.failed :=
  ⟨none, 0, h, Sees.none_ _ _ _, Nat.le_refl _, by decide, fun _ => rfl, fun h => absurd h (by simp [RS.failed])⟩
theorem Rdr.keep {w w' : World} {g : Nat} {s : RS} (h : Rdr w g s) (hk : ∀ k, k ≤ g → w'.heap[k]? = w.heap[k]?) : Rdr w' g s := by
  obtain ⟨A, c, h1, h2, h3, h4, h5, h6⟩ := h
  refine ⟨A, c, (hk g (Nat.le_refl _)).trans h1, h2.keep fun p hp => World.cell?_of_block (hk p.block (by omega)), h3, h4, h5, fun hn a ha => ?_⟩
  obtain ⟨b, off, hA, hb, _⟩ := h2.2 hn
  obtain ⟨cs, fr, hcs⟩ := h6 hn a ha
  rw [hA] at ha
  injection ha with ha
  subst ha
  exact ⟨cs, fr, (hk b (by omega)).trans hcs⟩
theorem Rdr.lt {w : World} {g : Nat} {s : RS} (h : Rdr w g s) : g < w.heap.size := by
  obtain ⟨A, c, h1, _⟩ := h
  exact h1.lt
theorem Rdr.below {w w' : World} {g B : Nat} {s : RS} (h : Rdr w g s) (hb : Below B w w') (hB : g < B) : Rdr w' g s := h.keep fun k hk => hb.block k (by omega)
theorem Rdr.drew {w : World} {g : Nat} {s : RS} (h : Rdr w g s) : Rdr w.drew g s := h
theorem Rdr.drewN {w : World} {g : Nat} {s : RS} (h : Rdr w g s) (n : Nat) : Rdr (w.drewN n) g s := h
theorem Rdr.alloc {w : World} {g : Nat} {s : RS} (h : Rdr w g s) (o : Obj) : Rdr (w.alloc o) g s := h.keep fun k hk => Below.heap_alloc w o k (by have := h.lt; omega)

theorem row_set {w : World} {g : Nat} {A A' : Option Addr} {n m : Nat} {xs : List Value} (hs : Sees w g A n xs) (h : RowOf w A n) (hm : m ≤ n) (hA : ∀ a, A' = some a → ∃ a', A = some a' ∧ a.block = a'.block) (u : Value) : RowOf (w.setCell ⟨g, 0, none⟩ u) A' m := by
  intro hm0 a ha
  obtain ⟨a', h1, h2⟩ := hA a ha
  obtain ⟨b, off, hb, hlt, _⟩ := hs.2 (by omega)
  obtain ⟨cs, fr, hcs⟩ := h (by omega) a' h1
  rw [h1] at hb
  injection hb with hb
  subst hb
  rw [h2]
  exact ⟨cs, fr, (Below.heap_setCell w _ u b (by have := hlt; exact Nat.ne_of_lt this)).trans hcs⟩

set_option maxRecDepth 100000 in
set_option maxHeartbeats 400000 in
theorem fail_any (g : Nat) (v0 v1 : Value) (w : World) (hb : Blk w g 141 #[v0, v1]) :
    Calls Try.prog 112 #[.pointer (some ⟨g, 0, none⟩)] w fun e w' => e = .returned (.tuple #[]) ∧ Rdr w' g RS.failed ∧ w.grownBy w' (some g) := by
  have c0 : w.cell? ⟨g, 0, none⟩ = some v0 := by rw [hb.cell]; rfl
  have c1 : w.cell? ⟨g, 1, none⟩ = some v1 := by rw [hb.cell]; rfl
  have f0 := hb.frozen 0
  have f1 := hb.frozen 1
  have HB := Lib.hid hb
  clear hb
  go_enter Try.func112, Try.ntmps112
  go_wp2_with fail
  go_end0
  exact ⟨rfl, Rdr.failed_ ((HB.out.set_ 1 (.bool true)).set_ 0 (.slice none 0 0)), gb_set (gb_set (gb_refl w _) _ _) _ _⟩

set_option maxRecDepth 100000 in
set_option maxHeartbeats 400000 in
/-- Reader.Fail -/
theorem rFail_any (g : Nat) (s : RS) (w : World) (h : Rdr w g s) :
    Calls Try.prog 113 #[.pointer (some ⟨g, 0, none⟩)] w fun e w' => e = .returned (.bool s.bad) ∧ w' = w := by
  obtain ⟨A, c, hb, _⟩ := h
  have c1 : w.cell? ⟨g, 1, none⟩ = some (.bool s.bad) := by rw [hb.cell]; rfl
  clear hb
  go_enter Try.func113, Try.ntmps113
  go_wp2_with fail
  go_ret
  exact ⟨rfl, rfl⟩
set_option maxRecDepth 100000 in
/-- .. of nil -/
theorem rFail_nil (w : World) :
    Calls Try.prog 113 #[.pointer none] w fun e w' => e = .returned (.bool true) ∧ w' = w := by
  go_enter Try.func113, Try.ntmps113
  go_wp2_with fail
  go_ret
  exact ⟨rfl, rfl⟩

/-- what take answers where so many bytes are left -/
def Took (g n : Nat) (s : RS) (w : World) (e : Ending) (w' : World) : Prop :=
  ∃ A c, e = .returned (.tuple #[.slice A n c, .bool true]) ∧ Sees w' g A n (cbs (s.l.take n)) ∧ Rdr w' g (s.behind n) ∧ w.grownBy w' (some g)

set_option maxRecDepth 100000 in
set_option maxHeartbeats 400000 in
/-- Reader.take, where so many bytes are left -/
theorem take_yes (g n : Nat) (s : RS) (w : World) (h : Rdr w g s) (hb : s.bad = false) (hn : n ≤ s.l.length) :
    Calls Try.prog 110 #[.pointer (some ⟨g, 0, none⟩), .int .i64 (n : Int)] w (Took g n s w) := by
  have HF := Lib.hid (fun W => rFail_any g s W)
  have HR := Lib.hid h
  obtain ⟨A, c, hblk, hsee, hlc, hcm, _, hrow⟩ := h
  obtain ⟨l, bad⟩ := s
  simp only at hb hn hsee hlc hblk hrow
  subst hb
  have c0 : w.cell? ⟨g, 0, none⟩ = some (.slice A l.length c) := by rw [hblk.cell]; rfl
  have c1 : w.cell? ⟨g, 1, none⟩ = some (.bool false) := by rw [hblk.cell]; rfl
  have f0 := hblk.frozen 0
  have HB := Lib.hid hblk
  clear hblk
  have HS := Lib.hid hsee
  clear hsee
  have HW := Lib.hid hrow
  clear hrow
  unfold maxLen at hcm
  have hnot : ¬ (l.length : Int) < (n : Int) := by omega
  go_enter Try.func110, Try.ntmps110
  go_wp2_with (go_at_call 113; refine (HF.out _ HR.out).mono ?_; rintro e w' ⟨rfl, rfl⟩)
  case inl =>
    have hcn : c = n := by assumption
    have hd := HS.out.drop hn hlc
    rw [if_pos hcn] at hd
    have hl : (l.drop n).length = l.length - n := by simp
    have hset := HB.out.set_ 0 (.slice A (l.length - n) 0)
    go_ret2
    refine ⟨A, n, rfl, ?_, ?_, gb_set (gb_refl _ _) _ _⟩
    · have := (HS.out.take hn).setCell (p := ⟨g, 0, none⟩) (Nat.le_refl _) (.slice A (l.length - n) 0)
      unfold cbs at this ⊢
      rwa [List.map_take]
    · have e : (RS.mk l false).behind n = ⟨l.drop n, false⟩ := by simp [RS.behind, hn]
      rw [e]
      refine ⟨A, 0, by simp only [hl]; exact hset, ?_, by simp; omega, by decide, by simp, row_set HS.out HW.out (by simp) (fun a h => ⟨a, h, rfl⟩) _⟩
      simp only [hl]
      have := hd.setCell (p := ⟨g, 0, none⟩) (Nat.le_refl _) (.slice A (l.length - n) 0)
      unfold cbs at this ⊢
      rwa [List.map_drop]
  case inr =>
    have hcn : ¬ c = n := by assumption
    have hd := HS.out.drop hn hlc
    rw [if_neg hcn] at hd
    have hl : (l.drop n).length = l.length - n := by simp
    have hset := HB.out.set_ 0 (.slice (Option.map (fun x => x.add n) A) (l.length - n) (c - n))
    go_ret2
    refine ⟨A, c, rfl, ?_, ?_, gb_set (gb_refl _ _) _ _⟩
    · have := (HS.out.take hn).setCell (p := ⟨g, 0, none⟩) (Nat.le_refl _) (.slice (Option.map (fun x => x.add n) A) (l.length - n) (c - n))
      unfold cbs at this ⊢
      rwa [List.map_take]
    · have e : (RS.mk l false).behind n = ⟨l.drop n, false⟩ := by simp [RS.behind, hn]
      rw [e]
      refine ⟨_, c - n, by simp only [hl]; exact hset, ?_, by simp; omega, by unfold maxLen; omega, by simp, row_set HS.out HW.out (by simp) (fun a h => by obtain ⟨a', h1, h2⟩ := Option.map_eq_some_iff.1 h; exact ⟨a', h1, by rw [← h2]; unfold Addr.add; split <;> rfl⟩) _⟩
      simp only [hl]
      have := hd.setCell (p := ⟨g, 0, none⟩) (Nat.le_refl _) (.slice (Option.map (fun x => x.add n) A) (l.length - n) (c - n))
      unfold cbs at this ⊢
      rwa [List.map_drop]

set_option maxRecDepth 100000 in
set_option maxHeartbeats 400000 in
/-- Reader.take, where it failed, or so many bytes aren't left -/
theorem take_no (g n : Nat) (s : RS) (w : World) (h : Rdr w g s) (hn : ¬ (s.bad = false ∧ n ≤ s.l.length)) :
    Calls Try.prog 110 #[.pointer (some ⟨g, 0, none⟩), .int .i64 (n : Int)] w fun e w' => e = .returned (.tuple #[.slice none 0 0, .bool false]) ∧ Rdr w' g RS.failed ∧ w.grownBy w' (some g) := by
  have HF := Lib.hid (fun W => rFail_any g s W)
  have HR := Lib.hid h
  obtain ⟨A, c, hblk, hsee, hlc, hcm, hbl, _⟩ := h
  obtain ⟨l, bad⟩ := s
  simp only at hn hsee hlc hblk hbl
  unfold maxLen at hcm
  have c0 : w.cell? ⟨g, 0, none⟩ = some (.slice A l.length c) := by rw [hblk.cell]; rfl
  have HB := Lib.hid hblk
  clear hblk hsee
  cases bad
  · have hlt : (l.length : Int) < (n : Int) := by simp at hn; omega
    clear hbl hn
    have HX := Lib.hid (fun W => fail_any g (.slice A l.length c) (.bool false) W)
    go_enter Try.func110, Try.ntmps110
    go_wp2_with (first | (go_at_call 113; refine (HF.out _ HR.out).mono ?_; rintro e w' ⟨rfl, rfl⟩) | (go_at_call 112; refine (HX.out _ HB.out).mono ?_; rintro e w' ⟨rfl, hr, hg⟩))
    go_ret2
    exact ⟨rfl, hr, hg⟩
  · have hl0 := hbl rfl
    subst hl0
    clear hbl hn
    go_enter Try.func110, Try.ntmps110
    go_wp2_with (go_at_call 113; refine (HF.out _ HR.out).mono ?_; rintro e w' ⟨rfl, rfl⟩)
    go_ret2
    exact ⟨rfl, HR.out, gb_refl _ _⟩

theorem num_take_ret (s : RS) (n : Nat) (h : s.bad = false ∧ n ≤ s.l.length) : s.take n = some (s.l.take n) := if_pos h
theorem num_take_none (s : RS) (n : Nat) (h : ¬ (s.bad = false ∧ n ≤ s.l.length)) : s.take n = none := if_neg h
set_option maxRecDepth 100000 in
theorem fail_rdr (g : Nat) (s : RS) (w : World) (h : Rdr w g s) :
    Calls Try.prog 112 #[.pointer (some ⟨g, 0, none⟩)] w fun e w' => e = .returned (.tuple #[]) ∧ Rdr w' g RS.failed ∧ w.grownBy w' (some g) := by
  obtain ⟨A, c, hb, _⟩ := h
  exact fail_any g _ _ w hb

set_option maxRecDepth 100000 in
set_option maxHeartbeats 800000 in
/-- Reader.Int -/
theorem rInt_any (g : Nat) (s : RS) (least most : Int) (w : World) (h : Rdr w g s) :
    Calls Try.prog 93 #[.pointer (some ⟨g, 0, none⟩), .int .i64 least, .int .i64 most] w fun e w' => e = .returned (.int .i64 (s.int least most).1) ∧ Rdr w' g (s.int least most).2 ∧ w.grownBy w' (some g) := by
  by_cases hn : s.bad = false ∧ 8 ≤ s.l.length
  · have ht := num_take_ret s 8 hn
    have hy := take_yes g 8 s w h hn.1 hn.2
    unfold Took at hy
    have h8 : (s.l.take 8).length = 8 := by rw [List.length_take]; omega
    unfold RS.int
    rw [ht]
    simp only
    generalize hp : s.l.take 8 = p at *
    generalize s.behind 8 = s' at *
    have HY := Lib.hid hy
    clear hy ht hp h hn
    by_cases hlo : wrap64 (num p) < least ∨ most < wrap64 (num p)
    · rw [if_pos hlo]
      generalize hv : num p = v at *
      have HV := Lib.hid hv
      clear hv h8
      go_enter Try.func93, Try.ntmps93
      go_wp2_with fail
      refine HY.out.mono ?_
      rintro e w1 ⟨A, c, rfl, hs1, hr1, hg1⟩
      go_wp2_with fail
      refine (number_any A 8 c p g _ hs1 (by omega)).mono ?_
      rintro e w2 ⟨rfl, rfl⟩
      rw [HV.out]
      go_wp2_with (go_at_call 112; refine (fail_rdr g s' _ hr1).mono ?_; rintro e w3 ⟨rfl, hr2, hg2⟩)
      all_goals
        go_ret
        exact ⟨rfl, hr2, gb_trans hg1 hg2⟩
    · rw [if_neg hlo]
      generalize hv : num p = v at *
      have HV := Lib.hid hv
      clear hv h8
      have h1 : ¬ wrap64 v < least := fun h => hlo (.inl h)
      have h2 : ¬ most < wrap64 v := fun h => hlo (.inr h)
      clear hlo
      go_enter Try.func93, Try.ntmps93
      go_wp2_with fail
      refine HY.out.mono ?_
      rintro e w1 ⟨A, c, rfl, hs1, hr1, hg1⟩
      go_wp2_with fail
      refine (number_any A 8 c p g _ hs1 (by omega)).mono ?_
      rintro e w2 ⟨rfl, rfl⟩
      rw [HV.out]
      go_wp2_with fail
      go_ret
      exact ⟨rfl, hr1, hg1⟩
  · have ht := num_take_none s 8 hn
    have hy := take_no g 8 s w h hn
    unfold RS.int
    rw [ht]
    simp only
    have HY := Lib.hid hy
    clear hy ht h hn
    go_enter Try.func93, Try.ntmps93
    go_wp2_with fail
    refine HY.out.mono ?_
    rintro e w1 ⟨rfl, hr1, hg1⟩
    go_wp2_with fail
    go_ret
    exact ⟨rfl, hr1, hg1⟩

theorem num_two (p : List UInt8) (h : p.length = 2) : num p < 65536 := by
  have := num_lt p
  rw [h] at this
  exact this

set_option maxRecDepth 100000 in
set_option maxHeartbeats 800000 in
/-- Reader.Text -/
theorem rText_any (g : Nat) (s : RS) (most : Int) (w : World) (h : Rdr w g s) :
    Calls Try.prog 96 #[.pointer (some ⟨g, 0, none⟩), .int .i64 most] w fun e w' => e = .returned (.string ⟨(s.text most).1.toArray⟩) ∧ Rdr w' g (s.text most).2 ∧ w.grownBy w' (some g) := by
  have hcv := fun W A n c l h => conv_sees (P := Try.prog) W 27 9 5 sl_u8 Try.underlying5 Try.underlying9 g A n c l h
  have HC := Lib.hid hcv
  clear hcv
  by_cases hn : s.bad = false ∧ 2 ≤ s.l.length
  · have ht := num_take_ret s 2 hn
    have hy := take_yes g 2 s w h hn.1 hn.2
    unfold Took at hy
    have h2 : (s.l.take 2).length = 2 := by rw [List.length_take]; omega
    unfold RS.text
    rw [ht]
    simp only
    generalize hp : s.l.take 2 = p at *
    generalize s.behind 2 = s' at *
    have hlt := num_two p h2
    have HY := Lib.hid hy
    clear hy ht hp h hn
    by_cases hlo : most < (num p : Int)
    · rw [if_pos hlo]
      generalize hv : num p = v at *
      have HV := Lib.hid hv
      clear hv h2
      go_enter Try.func96, Try.ntmps96
      go_wp2_with fail
      refine HY.out.mono ?_
      rintro e w1 ⟨A, c, rfl, hs1, hr1, hg1⟩
      go_wp2_with fail
      refine (number_any A 2 c p g _ hs1 (by omega)).mono ?_
      rintro e w2 ⟨rfl, rfl⟩
      rw [HV.out]
      go_wp2_with (go_at_call 112; refine (fail_rdr g s' _ hr1).mono ?_; rintro e w3 ⟨rfl, hr2, hg2⟩)
      go_ret
      exact ⟨rfl, hr2, gb_trans hg1 hg2⟩
    · rw [if_neg hlo]
      generalize hv : num p = v at *
      have HV := Lib.hid hv
      clear hv h2
      by_cases hm : s'.bad = false ∧ v ≤ s'.l.length
      · rw [num_take_ret s' v hm]
        simp only
        have hy2 := fun W hr => take_yes g v s' W hr hm.1 hm.2
        unfold Took at hy2
        generalize s'.l.take v = q at *
        generalize s'.behind v = s2 at *
        have HY2 := Lib.hid hy2
        clear hy2 hm
        go_enter Try.func96, Try.ntmps96
        go_wp2_with fail
        refine HY.out.mono ?_
        rintro e w1 ⟨A, c, rfl, hs1, hr1, hg1⟩
        go_wp2_with fail
        refine (number_any A 2 c p g _ hs1 (by omega)).mono ?_
        rintro e w2 ⟨rfl, rfl⟩
        rw [HV.out]
        go_wp2_with fail
        refine (HY2.out _ hr1).mono ?_
        rintro e w3 ⟨A2, c2, rfl, hs3, hr3, hg3⟩
        have hcv := HC.out w3 A2 v c2 q hs3
        go_wp2_with fail
        go_ret
        exact ⟨rfl, hr3, gb_trans hg1 hg3⟩
      · rw [num_take_none s' v hm]
        simp only
        have HY2 := Lib.hid (fun W hr => take_no g v s' W hr hm)
        clear hm
        go_enter Try.func96, Try.ntmps96
        go_wp2_with fail
        refine HY.out.mono ?_
        rintro e w1 ⟨A, c, rfl, hs1, hr1, hg1⟩
        go_wp2_with fail
        refine (number_any A 2 c p g _ hs1 (by omega)).mono ?_
        rintro e w2 ⟨rfl, rfl⟩
        rw [HV.out]
        go_wp2_with fail
        refine (HY2.out _ hr1).mono ?_
        rintro e w3 ⟨rfl, hr3, hg3⟩
        have hcv := HC.out w3 none 0 0 [] (Sees.none_ _ _ _)
        go_wp2_with fail
        go_ret
        exact ⟨rfl, hr3, gb_trans hg1 hg3⟩
  · have ht := num_take_none s 2 hn
    have hy := take_no g 2 s w h hn
    unfold RS.text
    rw [ht]
    simp only
    have HY := Lib.hid hy
    clear hy ht h hn
    go_enter Try.func96, Try.ntmps96
    go_wp2_with fail
    refine HY.out.mono ?_
    rintro e w1 ⟨rfl, hr1, hg1⟩
    go_wp2_with fail
    go_ret
    exact ⟨rfl, hr1, hg1⟩
end Go.Proofs.Ytmhgbpgbnfdokaa
