/- The walks of package net, of things of type string. -/
import Derived.Test.YtpgohajnohebnabNtM
import Derived.Test.YtpgohajnohebnabChecked
import Derived.WalkKit
import Derived.WalkSpells
import Derived.WalkLawsBesides
import Derived.Deep.OwnRows
import Derived.Lib.Hide
import Derived.Outline
import Derived.Handy
import Derived.Deep.RegionWith
import Derived.Deep.DeepCutAuto
import Derived.BigQuiet
import Derived.Deep.RegionLaw
namespace Go.Proofs.Ytpgohajnohebnab
open Go.RowKit

theorem s_row : (Try.prog.info? 9).map (fun i => (i.zero, i.size, i.bytes)) = some (some (.string ⟨#[]⟩), 1, 16) := by kernel_rfl
theorem sl_s : Try.prog.underlying 42 = some (.slice 9) := Try.underlying42
/-- the cells of things -/
def scs (l : List ByteArray) : List Value := l.map (fun v => .string v)
theorem scs_one (l : List ByteArray) : ∀ u ∈ scs l, u.oneCell' = true := by
  intro u hu
  obtain ⟨x, _, rfl⟩ := List.mem_map.1 hu
  rfl
theorem scs_len (l : List ByteArray) : (scs l).length = l.length := by simp [scs]
theorem scs_app (a b : List ByteArray) : scs (a ++ b) = scs a ++ scs b := by simp [scs]
theorem scs_erase (l : List ByteArray) (i : Nat) : (scs l).eraseIdx i = scs (l.eraseIdx i) := by
  simp only [scs, List.eraseIdx_eq_take_drop_succ, List.map_append, List.map_take, List.map_drop]
/-- the net of such things in block g -/
def sNet (w : World) (base g : Nat) (f : Option Nat) (l : List ByteArray) : Prop := NetAt 50 9 w base g f (scs l)
def sMoves (w : World) (base g : Nat) (f : Option Nat) (l : List ByteArray) (w' : World) : Prop := NetMoves 50 9 w base g f (scs l) w'

set_option maxRecDepth 100000 in
/-- net.New -/
theorem sNew_any (w : World) : Calls Try.prog 13 #[] w fun e w' => ∃ g, e = .returned (.pointer (some ⟨g, 0, none⟩)) ∧ sNet w' w.heap.size g none [] ∧ Below w.heap.size w w' := by
  go_enter Try.func13, Try.ntmps13
  go_wp2_with fail
  go_ret
  exact ⟨w.heap.size, rfl, ⟨none, 0, Blk.new w _ _, Nat.le_refl _, FreeN.nil _ _ _ _, rfl⟩, (Below.refl _ _).alloc (Nat.le_refl _) _⟩

set_option maxRecDepth 100000 in
/-- (*net.Net).has -/
theorem sHas_any (base g : Nat) (f : Option Nat) (l : List ByteArray) (i : Int) (w : World) (h : sNet w base g f l) :
    Calls Try.prog 21 #[.pointer (some ⟨g, 0, none⟩), .int .i64 i] w fun e w' => e = .returned (.bool (decide (0 ≤ i) && decide (i < (l.length : Int)))) ∧ w' = w := by
  obtain ⟨A, c, c0, _⟩ := NetAt.cell h
  rw [scs_len] at c0
  clear h
  by_cases h0 : 0 ≤ i
  · go_enter Try.func21, Try.ntmps21
    go_wp2_with fail
    go_ret
    refine ⟨?_, rfl⟩
    rw [decide_eq_true h0]
    simp
  · go_enter Try.func21, Try.ntmps21
    go_wp2_with fail
    go_ret
    refine ⟨?_, rfl⟩
    rw [decide_eq_false (show ¬ 0 ≤ i by omega)]
    simp

set_option maxRecDepth 100000 in
set_option maxHeartbeats 800000 in
/-- slices.Clone -/
theorem sClone_any (base : Nat) (A : Option Addr) (n c : Nat) (l : List ByteArray) (w : World) (hf : FreeN 1 w base 9 A n c (scs l)) (hl : l.length = n) (hn : n ≤ 1099511627776) :
    Calls Try.prog 23 #[.slice A n c] w fun e w' => ∃ A' c', e = .returned (.slice A' n c') ∧ FreeN 1 w' w.heap.size 9 A' n c' (scs l) ∧ Below w.heap.size w w' := by
  obtain ⟨i0, hi0, hz0, hz1, hz2⟩ := info_parts s_row
  subst hl
  rcases A with _ | a
  · have hn0 : l = [] := by
      rcases Nat.eq_zero_or_pos c with h | h
      · exact List.eq_nil_of_length_eq_zero (by have := hf.2.1; omega)
      · obtain ⟨_, _, _, h9, _⟩ := hf.2.2.2 h
        cases h9
    subst hn0
    have heq := fun W => Lib.run_eql_slice_nil (P := Try.prog) W 42 9 none 0 c 0 0 sl_s
    clear hf
    go_enter Try.func23, Try.ntmps23
    go_wp2_with fail
    go_ret
    exact ⟨none, 0, rfl, FreeN.nil _ _ _ _, Below.refl _ _⟩
  · have heq := fun W => Lib.run_eql_slice_nil (P := Try.prog) W 42 9 (some a) l.length c 0 0 sl_s
    have hs := hf.sees
    have HS := Lib.hid hs
    clear hf hs
    go_enter Try.func23, Try.ntmps23
    have hc1 : 0 + l.length ≤ maxLen := by rw [Nat.zero_add]; exact Nat.le_trans hn (by decide)
    have hc2 : (0 + l.length) * 16 ≤ 140737488355328 := by omega
    have hown : FreeN 1 (w.alloc (.cells #[] 9)) w.heap.size 9 (some ⟨w.heap.size, 0, none⟩) 0 0 [] := FreeN.of_own (World.ownsRow_made w _ 0 (Nat.le_refl _) (by decide) rfl)
    go_wp2_with (at_builtin; refine wpList_append_freeN (sz := 1) _ rfl (.tmp 5) (.tmp 6) _ rfl w.heap.size 9 i0 _ 16 sl_s hi0 hz0 hz1 hz2 rfl (by omega) (some ⟨w.heap.size, 0, none⟩) 0 0 [] rfl hown w.heap.size (some a) l.length c (scs l) rfl (Sees.alloc HS.out (Nat.le_refl _) _) (scs_one l) hc1 hc2 (by simp) ?_; intro A2 c2 w2 ha2; rw [Nat.zero_add])
    go_ret
    obtain ⟨hf2, hg2, _⟩ := ha2
    rw [Nat.zero_add, List.nil_append] at hf2
    refine ⟨A2, c2, rfl, hf2, ((Below.refl _ _).alloc (Nat.le_refl _) _).grown hg2 (by simp) (fun g hg => ?_)⟩
    simp [foot] at hg

set_option maxRecDepth 100000 in
/-- (*net.Net).All -/
theorem sAll_any (base g : Nat) (f : Option Nat) (l : List ByteArray) (w : World) (h : sNet w base g f l) (hl : l.length ≤ 1099511627776) :
    Calls Try.prog 17 #[.pointer (some ⟨g, 0, none⟩)] w fun e w' => ∃ A' c', e = .returned (.slice A' l.length c') ∧ FreeN 1 w' w.heap.size 9 A' l.length c' (scs l) ∧ Below w.heap.size w w' := by
  obtain ⟨A, c, c0, _, _, _, hf, _⟩ := NetAt.cell h
  rw [scs_len] at c0 hf
  have HC := Lib.hid (sClone_any base A l.length c l w hf rfl hl)
  clear h hf
  go_enter Try.func17, Try.ntmps17
  go_wp2_with fail
  refine HC.out.mono ?_
  rintro e w1 ⟨A1, c1, rfl, hf1, hb1⟩
  have HF := Lib.hid hf1
  have HB := Lib.hid hb1
  clear hf1 hb1
  go_wp2_with fail
  go_ret
  exact ⟨A1, c1, rfl, HF.out, HB.out⟩

/-- a thing in a cell of its own -/
def sendFs (l : List ByteArray) (v : ByteArray) : List ByteArray × Nat := if 512 ≤ l.length then (l, 7) else (l ++ [v], 0)
set_option maxRecDepth 100000 in
set_option maxHeartbeats 800000 in
/-- (*net.Net).Send -/
theorem sSend_any (base g : Nat) (f : Option Nat) (l : List ByteArray) (v : ByteArray) (w : World) (h : sNet w base g f l) (hB : base ≤ w.heap.size) :
    Calls Try.prog 14 #[.pointer (some ⟨g, 0, none⟩), .string v] w fun e w' => e = .returned (.int .i64 ((sendFs l v).2 : Int)) ∧ sMoves w base g f (sendFs l v).1 w' := by
  obtain ⟨A, c, c0, f0, hb, hg, hf, rfl⟩ := NetAt.cell h
  rw [scs_len] at c0 hb hf
  unfold sendFs
  by_cases hfull : 512 ≤ l.length
  · rw [if_pos hfull]
    have hfull' : (512 : Int) ≤ (l.length : Int) := by omega
    have H := Lib.hid h
    clear h hb hg hf hfull
    go_enter Try.func14, Try.ntmps14
    go_wp2_with fail
    go_ret
    exact ⟨rfl, NetMoves.same H.out⟩
  · rw [if_neg hfull]
    have hfull' : ¬ (512 : Int) ≤ (l.length : Int) := by omega
    obtain ⟨i0, hi0, hz0, hz1, hz2⟩ := info_parts s_row
    have HES := Lib.hid (show l.length < 512 by omega)
    have HBK := Lib.hid hb
    have HG := Lib.hid hg
    have HF := Lib.hid hf
    have HB := Lib.hid hB
    clear h hb hg hf hfull hB
    go_enter Try.func14, Try.ntmps14
    go_upto_region 5 with (fail)
    have hA := (Below.refl w.heap.size w).alloc (Nat.le_refl _) (.cells #[.string v] 9)
    have hx2 : Sees (w.alloc (.cells #[.string v] 9)) (w.alloc (.cells #[.string v] 9)).heap.size (some ⟨w.heap.size, 0, none⟩) (1 * 1) (scs [v]) := sees_new w #[.string v] 9
    have HX := Lib.hid hx2
    have HFA := Lib.hid (HF.out.on hA)
    have HBA := Lib.hid (HBK.out.below hA HBK.out.lt)
    have HL := Lib.hid hA
    clear hA hx2
    go_wp2_with (at_builtin; refine wpList_append_freeN (sz := 1) _ rfl (.tmp 17) (.tmp 19) 42 rfl base 9 i0 _ 16 sl_s hi0 hz0 hz1 hz2 rfl (by omega) A l.length c (scs l) rfl HFA.out _ (some ⟨w.heap.size, 0, none⟩) 1 1 (scs [v]) rfl HX.out (scs_one _) (by have := HES.out; exact Nat.le_trans (show l.length + 1 ≤ 513 by omega) (by decide)) (by have := HES.out; omega) (Nat.le_trans HB.out HL.out.size) ?_; intro A3 c3 w3 ha3; obtain ⟨c0', f0', hmv⟩ := NetAt.stored (by decide) HBA.out HG.out HFA.out ha3.2.1 ha3.1 (by rcases ha3.2.2 with h9 | h9; exact .inl h9; exact .inr (.inr h9)) (by rw [← scs_app, scs_len]; simp))
    go_ret
    rw [sMoves, scs_app]
    exact ⟨rfl, NetMoves.behind HL.out hmv⟩
end Go.Proofs.Ytpgohajnohebnab
