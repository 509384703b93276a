/- The walks of package net, of things of type int. -/
import Derived.Test.YtpgohajnohebnabNtM
import Derived.Test.YtpgohajnohebnabChecked
import Derived.WalkKit
import Derived.WalkSpells
import Derived.WalkLawsBesides
import Derived.Deep.OwnRows
import Derived.Lib.Hide
import Derived.Outline
import Derived.Handy
import Derived.Deep.RegionWith
import Derived.Deep.DeepCutAuto
import Derived.BigQuiet
import Derived.Deep.RegionLaw
namespace Go.Proofs.Ytpgohajnohebnab
open Go.RowKit

theorem i_row : (Try.prog.info? 3).map (fun i => (i.zero, i.size, i.bytes)) = some (some (.int .i64 0), 1, 8) := by kernel_rfl
theorem sl_i : Try.prog.underlying 26 = some (.slice 3) := Try.underlying26
/-- the cells of things -/
def ics (l : List Int) : List Value := l.map (fun v => .int .i64 v)
theorem ics_one (l : List Int) : ∀ u ∈ ics l, u.oneCell' = true := by
  intro u hu
  obtain ⟨x, _, rfl⟩ := List.mem_map.1 hu
  rfl
theorem ics_len (l : List Int) : (ics l).length = l.length := by simp [ics]
theorem ics_app (a b : List Int) : ics (a ++ b) = ics a ++ ics b := by simp [ics]
theorem ics_erase (l : List Int) (i : Nat) : (ics l).eraseIdx i = ics (l.eraseIdx i) := by
  simp only [ics, List.eraseIdx_eq_take_drop_succ, List.map_append, List.map_take, List.map_drop]
/-- the net of such things in block g -/
def iNet (w : World) (base g : Nat) (f : Option Nat) (l : List Int) : Prop := NetAt 45 3 w base g f (ics l)
def iMoves (w : World) (base g : Nat) (f : Option Nat) (l : List Int) (w' : World) : Prop := NetMoves 45 3 w base g f (ics l) w'

set_option maxRecDepth 100000 in
/-- net.New -/
theorem iNew_any (w : World) : Calls Try.prog 6 #[] w fun e w' => ∃ g, e = .returned (.pointer (some ⟨g, 0, none⟩)) ∧ iNet w' w.heap.size g none [] ∧ Below w.heap.size w w' := by
  go_enter Try.func6, Try.ntmps6
  go_wp2_with fail
  go_ret
  exact ⟨w.heap.size, rfl, ⟨none, 0, Blk.new w _ _, Nat.le_refl _, FreeN.nil _ _ _ _, rfl⟩, (Below.refl _ _).alloc (Nat.le_refl _) _⟩

set_option maxRecDepth 100000 in
/-- (*net.Net).Len -/
theorem iLen_any (base g : Nat) (f : Option Nat) (l : List Int) (w : World) (h : iNet w base g f l) :
    Calls Try.prog 12 #[.pointer (some ⟨g, 0, none⟩)] w fun e w' => e = .returned (.int .i64 (l.length : Int)) ∧ w' = w := by
  obtain ⟨A, c, c0, _⟩ := NetAt.cell h
  rw [ics_len] at c0
  clear h
  go_enter Try.func12, Try.ntmps12
  go_wp2_with fail
  go_ret
  exact ⟨rfl, rfl⟩

set_option maxRecDepth 100000 in
/-- (*net.Net).has -/
theorem iHas_any (base g : Nat) (f : Option Nat) (l : List Int) (i : Int) (w : World) (h : iNet w base g f l) :
    Calls Try.prog 18 #[.pointer (some ⟨g, 0, none⟩), .int .i64 i] w fun e w' => e = .returned (.bool (decide (0 ≤ i) && decide (i < (l.length : Int)))) ∧ w' = w := by
  obtain ⟨A, c, c0, _⟩ := NetAt.cell h
  rw [ics_len] at c0
  clear h
  by_cases h0 : 0 ≤ i
  · go_enter Try.func18, Try.ntmps18
    go_wp2_with fail
    go_ret
    refine ⟨?_, rfl⟩
    rw [decide_eq_true h0]
    simp
  · go_enter Try.func18, Try.ntmps18
    go_wp2_with fail
    go_ret
    refine ⟨?_, rfl⟩
    rw [decide_eq_false (show ¬ 0 ≤ i by omega)]
    simp

set_option maxRecDepth 100000 in
set_option maxHeartbeats 800000 in
/-- slices.Clone -/
theorem iClone_any (base : Nat) (A : Option Addr) (n c : Nat) (l : List Int) (w : World) (hf : FreeN 1 w base 3 A n c (ics l)) (hl : l.length = n) (hn : n ≤ 1099511627776) :
    Calls Try.prog 20 #[.slice A n c] w fun e w' => ∃ A' c', e = .returned (.slice A' n c') ∧ FreeN 1 w' w.heap.size 3 A' n c' (ics l) ∧ Below w.heap.size w w' := by
  obtain ⟨i0, hi0, hz0, hz1, hz2⟩ := info_parts i_row
  subst hl
  rcases A with _ | a
  · have hn0 : l = [] := by
      rcases Nat.eq_zero_or_pos c with h | h
      · exact List.eq_nil_of_length_eq_zero (by have := hf.2.1; omega)
      · obtain ⟨_, _, _, h9, _⟩ := hf.2.2.2 h
        cases h9
    subst hn0
    have heq := fun W => Lib.run_eql_slice_nil (P := Try.prog) W 26 3 none 0 c 0 0 sl_i
    clear hf
    go_enter Try.func20, Try.ntmps20
    go_wp2_with fail
    go_ret
    exact ⟨none, 0, rfl, FreeN.nil _ _ _ _, Below.refl _ _⟩
  · have heq := fun W => Lib.run_eql_slice_nil (P := Try.prog) W 26 3 (some a) l.length c 0 0 sl_i
    have hs := hf.sees
    have HS := Lib.hid hs
    clear hf hs
    go_enter Try.func20, Try.ntmps20
    have hc1 : 0 + l.length ≤ maxLen := by rw [Nat.zero_add]; exact Nat.le_trans hn (by decide)
    have hc2 : (0 + l.length) * 8 ≤ 140737488355328 := by omega
    have hown : FreeN 1 (w.alloc (.cells #[] 3)) w.heap.size 3 (some ⟨w.heap.size, 0, none⟩) 0 0 [] := FreeN.of_own (World.ownsRow_made w _ 0 (Nat.le_refl _) (by decide) rfl)
    go_wp2_with (at_builtin; refine wpList_append_freeN (sz := 1) _ rfl (.tmp 5) (.tmp 6) _ rfl w.heap.size 3 i0 _ 8 sl_i hi0 hz0 hz1 hz2 rfl (by omega) (some ⟨w.heap.size, 0, none⟩) 0 0 [] rfl hown w.heap.size (some a) l.length c (ics l) rfl (Sees.alloc HS.out (Nat.le_refl _) _) (ics_one l) hc1 hc2 (by simp) ?_; intro A2 c2 w2 ha2; rw [Nat.zero_add])
    go_ret
    obtain ⟨hf2, hg2, _⟩ := ha2
    rw [Nat.zero_add, List.nil_append] at hf2
    refine ⟨A2, c2, rfl, hf2, ((Below.refl _ _).alloc (Nat.le_refl _) _).grown hg2 (by simp) (fun g hg => ?_)⟩
    simp [foot] at hg

set_option maxRecDepth 100000 in
/-- (*net.Net).All -/
theorem iAll_any (base g : Nat) (f : Option Nat) (l : List Int) (w : World) (h : iNet w base g f l) (hl : l.length ≤ 1099511627776) :
    Calls Try.prog 11 #[.pointer (some ⟨g, 0, none⟩)] w fun e w' => ∃ A' c', e = .returned (.slice A' l.length c') ∧ FreeN 1 w' w.heap.size 3 A' l.length c' (ics l) ∧ Below w.heap.size w w' := by
  obtain ⟨A, c, c0, _, _, _, hf, _⟩ := NetAt.cell h
  rw [ics_len] at c0 hf
  have HC := Lib.hid (iClone_any base A l.length c l w hf rfl hl)
  clear h hf
  go_enter Try.func11, Try.ntmps11
  go_wp2_with fail
  refine HC.out.mono ?_
  rintro e w1 ⟨A1, c1, rfl, hf1, hb1⟩
  have HF := Lib.hid hf1
  have HB := Lib.hid hb1
  clear hf1 hb1
  go_wp2_with fail
  go_ret
  exact ⟨A1, c1, rfl, HF.out, HB.out⟩

set_option maxRecDepth 100000 in
/-- (*net.Net).Clear -/
theorem iClear_any (base g : Nat) (f : Option Nat) (l : List Int) (w : World) (h : iNet w base g f l) :
    Calls Try.prog 10 #[.pointer (some ⟨g, 0, none⟩)] w fun e w' => e = .returned (.tuple #[]) ∧ iMoves w base g f [] w' := by
  obtain ⟨A, c, c0, f0, hb, hg, hf, rfl⟩ := NetAt.cell h
  have HM := Lib.hid (NetAt.stored (by decide) hb hg hf (gb_refl w _) (FreeN.nil 1 w base 3) (.inr (.inl rfl)) rfl).2.2
  clear h hb hg hf
  go_enter Try.func10, Try.ntmps10
  go_wp2_with fail
  go_end0
  exact ⟨rfl, HM.out⟩

/-- a thing in a cell of its own -/
def sendFi (l : List Int) (v : Int) : List Int × Nat := if 512 ≤ l.length then (l, 7) else (l ++ [v], 0)
set_option maxRecDepth 100000 in
set_option maxHeartbeats 800000 in
/-- (*net.Net).Send -/
theorem iSend_any (base g : Nat) (f : Option Nat) (l : List Int) (v : Int) (w : World) (h : iNet w base g f l) (hB : base ≤ w.heap.size) :
    Calls Try.prog 7 #[.pointer (some ⟨g, 0, none⟩), .int .i64 v] w fun e w' => e = .returned (.int .i64 ((sendFi l v).2 : Int)) ∧ iMoves w base g f (sendFi l v).1 w' := by
  obtain ⟨A, c, c0, f0, hb, hg, hf, rfl⟩ := NetAt.cell h
  rw [ics_len] at c0 hb hf
  unfold sendFi
  by_cases hfull : 512 ≤ l.length
  · rw [if_pos hfull]
    have hfull' : (512 : Int) ≤ (l.length : Int) := by omega
    have H := Lib.hid h
    clear h hb hg hf hfull
    go_enter Try.func7, Try.ntmps7
    go_wp2_with fail
    go_ret
    exact ⟨rfl, NetMoves.same H.out⟩
  · rw [if_neg hfull]
    have hfull' : ¬ (512 : Int) ≤ (l.length : Int) := by omega
    obtain ⟨i0, hi0, hz0, hz1, hz2⟩ := info_parts i_row
    have HES := Lib.hid (show l.length < 512 by omega)
    have HBK := Lib.hid hb
    have HG := Lib.hid hg
    have HF := Lib.hid hf
    have HB := Lib.hid hB
    clear h hb hg hf hfull hB
    go_enter Try.func7, Try.ntmps7
    go_upto_region 5 with (fail)
    have hA := (Below.refl w.heap.size w).alloc (Nat.le_refl _) (.cells #[.int .i64 v] 3)
    have hx2 : Sees (w.alloc (.cells #[.int .i64 v] 3)) (w.alloc (.cells #[.int .i64 v] 3)).heap.size (some ⟨w.heap.size, 0, none⟩) (1 * 1) (ics [v]) := sees_new w #[.int .i64 v] 3
    have HX := Lib.hid hx2
    have HFA := Lib.hid (HF.out.on hA)
    have HBA := Lib.hid (HBK.out.below hA HBK.out.lt)
    have HL := Lib.hid hA
    clear hA hx2
    go_wp2_with (at_builtin; refine wpList_append_freeN (sz := 1) _ rfl (.tmp 17) (.tmp 19) 26 rfl base 3 i0 _ 8 sl_i hi0 hz0 hz1 hz2 rfl (by omega) A l.length c (ics l) rfl HFA.out _ (some ⟨w.heap.size, 0, none⟩) 1 1 (ics [v]) rfl HX.out (ics_one _) (by have := HES.out; exact Nat.le_trans (show l.length + 1 ≤ 513 by omega) (by decide)) (by have := HES.out; omega) (Nat.le_trans HB.out HL.out.size) ?_; intro A3 c3 w3 ha3; obtain ⟨c0', f0', hmv⟩ := NetAt.stored (by decide) HBA.out HG.out HFA.out ha3.2.1 ha3.1 (by rcases ha3.2.2 with h9 | h9; exact .inl h9; exact .inr (.inr h9)) (by rw [← ics_app, ics_len]; simp))
    go_ret
    rw [iMoves, ics_app]
    exact ⟨rfl, NetMoves.behind HL.out hmv⟩
end Go.Proofs.Ytpgohajnohebnab
