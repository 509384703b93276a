/- The walks of package net, of things of type string. -/
import Derived.Test.YtgioaapflilhhabNtM
import Derived.Test.YtgioaapflilhhabChecked
import Derived.WalkKit
import Derived.WalkSpells
import Derived.WalkLawsBesides
import Derived.Deep.OwnRows
import Derived.Lib.Hide
import Derived.Outline
import Derived.Handy
import Derived.Deep.RegionWith
import Derived.Deep.DeepCutAuto
import Derived.BigQuiet
import Derived.Deep.RegionLaw
namespace Go.Proofs.Ytgioaapflilhhab
open Go.RowKit

theorem s_row : (Try.prog.info? 9).map (fun i => (i.zero, i.size, i.bytes)) = some (some (.string ⟨#[]⟩), 1, 16) := by kernel_rfl
theorem sl_s : Try.prog.underlying 22 = some (.slice 9) := Try.underlying22
/-- the cells of things -/
def scs (l : List ByteArray) : List Value := l.map (fun v => .string v)
theorem scs_one (l : List ByteArray) : ∀ u ∈ scs l, u.oneCell' = true := by
  intro u hu
  obtain ⟨x, _, rfl⟩ := List.mem_map.1 hu
  rfl
theorem scs_len (l : List ByteArray) : (scs l).length = l.length := by simp [scs]
theorem scs_app (a b : List ByteArray) : scs (a ++ b) = scs a ++ scs b := by simp [scs]
theorem scs_erase (l : List ByteArray) (i : Nat) : (scs l).eraseIdx i = scs (l.eraseIdx i) := by
  simp only [scs, List.eraseIdx_eq_take_drop_succ, List.map_append, List.map_take, List.map_drop]
set_option maxRecDepth 100000 in
set_option maxHeartbeats 800000 in
/-- slices.Clone -/
theorem sClone_any (base : Nat) (A : Option Addr) (n c : Nat) (l : List ByteArray) (w : World) (hf : FreeN 1 w base 9 A n c (scs l)) (hl : l.length = n) (hn : n ≤ 1099511627776) :
    Calls Try.prog 25 #[.slice A n c] w fun e w' => ∃ A' c', e = .returned (.slice A' n c') ∧ FreeN 1 w' w.heap.size 9 A' n c' (scs l) ∧ Below w.heap.size w w' := by
  obtain ⟨i0, hi0, hz0, hz1, hz2⟩ := info_parts s_row
  subst hl
  rcases A with _ | a
  · have hn0 : l = [] := by
      rcases Nat.eq_zero_or_pos c with h | h
      · exact List.eq_nil_of_length_eq_zero (by have := hf.2.1; omega)
      · obtain ⟨_, _, _, h9, _⟩ := hf.2.2.2 h
        cases h9
    subst hn0
    have heq := fun W => Lib.run_eql_slice_nil (P := Try.prog) W 22 9 none 0 c 0 0 sl_s
    clear hf
    go_enter Try.func25, Try.ntmps25
    go_wp2_with fail
    go_ret
    exact ⟨none, 0, rfl, FreeN.nil _ _ _ _, Below.refl _ _⟩
  · have heq := fun W => Lib.run_eql_slice_nil (P := Try.prog) W 22 9 (some a) l.length c 0 0 sl_s
    have hs := hf.sees
    have HS := Lib.hid hs
    clear hf hs
    go_enter Try.func25, Try.ntmps25
    have hc1 : 0 + l.length ≤ maxLen := by rw [Nat.zero_add]; exact Nat.le_trans hn (by decide)
    have hc2 : (0 + l.length) * 16 ≤ 140737488355328 := by omega
    have hown : FreeN 1 (w.alloc (.cells #[] 9)) w.heap.size 9 (some ⟨w.heap.size, 0, none⟩) 0 0 [] := FreeN.of_own (World.ownsRow_made w _ 0 (Nat.le_refl _) (by decide) rfl)
    go_wp2_with (at_builtin; refine wpList_append_freeN (sz := 1) _ rfl (.tmp 5) (.tmp 6) _ rfl w.heap.size 9 i0 _ 16 sl_s hi0 hz0 hz1 hz2 rfl (by omega) (some ⟨w.heap.size, 0, none⟩) 0 0 [] rfl hown w.heap.size (some a) l.length c (scs l) rfl (Sees.alloc HS.out (Nat.le_refl _) _) (scs_one l) hc1 hc2 (by simp) ?_; intro A2 c2 w2 ha2; rw [Nat.zero_add])
    go_ret
    obtain ⟨hf2, hg2, _⟩ := ha2
    rw [Nat.zero_add, List.nil_append] at hf2
    refine ⟨A2, c2, rfl, hf2, ((Below.refl _ _).alloc (Nat.le_refl _) _).grown hg2 (by simp) (fun g hg => ?_)⟩
    simp [foot] at hg

/-- a thing in a cell of its own -/
def sendFs (l : List ByteArray) (v : ByteArray) : List ByteArray × Nat := if 512 ≤ l.length then (l, 7) else (l ++ [v], 0)
end Go.Proofs.Ytgioaapflilhhab
