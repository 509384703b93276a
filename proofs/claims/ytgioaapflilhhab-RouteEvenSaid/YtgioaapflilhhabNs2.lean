/- The walks of package net, of things of type string: Take and Double. -/
import Derived.Test.YtgioaapflilhhabNs1
import Derived.Deep.LoopGhost
namespace Go.Proofs.Ytgioaapflilhhab
open Go.RowKit

set_option maxRecDepth 100000 in
set_option maxHeartbeats 1600000 in
/-- slices.Delete, of one or more amid a row -/
theorem sDelete_any (base : Nat) (A : Option Addr) (n c i j : Nat) (xs : List Value) (w : World) (hf : FreeN 1 w base 9 A n c xs) (h1 : ∀ u ∈ xs, u.oneCell' = true) (hij : i < j) (hj : j ≤ n) :
    Calls Try.prog 28 #[.slice A n c, .int .i64 (i : Int), .int .i64 (j : Int)] w fun e w' => e = .returned (.slice A (i + (n - j)) c) ∧ FreeN 1 w' base 9 A (i + (n - j)) c (xs.take i ++ xs.drop j) ∧ w.grownBy w' (foot A c) := by
  obtain ⟨i0, hi0, hz0, hz1, hz2⟩ := info_parts s_row
  have hc : 0 < c := by have := hf.2.1; omega
  obtain ⟨hxl, hnc, hcm, hrow⟩ := hf
  obtain ⟨g, off, cur, rfl, hg, hB, hs, hx⟩ := hrow hc
  rw [Nat.mul_one] at hxl hs
  obtain ⟨news, hnews⟩ : ∃ news, news = xs.drop j := ⟨_, rfl⟩
  have hlen : news.length = n - j := by rw [hnews, List.length_drop, hxl]
  have hget : ∀ t, t < n - j → w.cell? ⟨g, off + (j + t), none⟩ = news[t]? := by
    intro t ht
    rw [hB.cell, hx (j + t) (by omega), hnews, List.getElem?_drop]
  obtain ⟨A2, hA, hsrc⟩ : ∃ A2 : Addr, (if c = j then (some ⟨g, off, none⟩ : Option Addr) else some ⟨g, off + j, none⟩) = some A2 ∧ Hid (∀ t u, news[t]? = some u → w.drew.cell? (A2.add t) = some u) := by
    by_cases h : c = j
    · refine ⟨⟨g, off, none⟩, by simp [h], fun t u hu => ?_⟩
      have h0 : news.length = 0 := by rw [hlen]; omega
      rw [List.length_eq_zero_iff.1 h0] at hu
      simp at hu
    · refine ⟨⟨g, off + j, none⟩, by simp [h], fun t u hu => ?_⟩
      have ht : t < n - j := by
        have := (List.getElem?_eq_some_iff.1 hu).1
        rwa [hlen] at this
      rw [Addr.add_lit, show off + j + t = off + (j + t) by omega]
      exact (hget t ht).trans hu
  have s1 : Hid (news.length = (n - j) * 1) := by rw [Nat.mul_one]; exact hlen
  have s2 : Hid (∀ u ∈ news, u.oneCell' = true) := fun u hu => h1 u (List.mem_of_mem_drop (by rw [← hnews]; exact hu))
  have s3 : Hid (∀ t, t < news.length → (w.drew.cell? ⟨g, off + i * 1 + t, none⟩).isSome = true ∧ w.drew.frozen? ⟨g, off + i * 1 + t, none⟩ = false) := by
    intro t ht
    rw [hlen] at ht
    refine ⟨?_, hB.frozen _⟩
    show (w.cell? _).isSome = true
    rw [hB.cell, Array.getElem?_eq_getElem (by omega)]
    rfl
  obtain ⟨cur1, b1, b2, b3, b4⟩ := Blk.sets news (off + i * 1) w.drew cur hB (by rw [hlen]; omega)
  have hgb := gb_sets (a := w) (g := g) news (off + i * 1) w.drew (gb_drew (gb_refl _ _))
  obtain ⟨W1, hW1⟩ : ∃ W1, W1 = w.drew.setCells g (off + i * 1) news := ⟨_, rfl⟩
  rw [← hW1] at b1 hgb
  have hcl : ∀ ty, (Builtin.clear_ #[22] ty #[.slice (some ⟨g, off + (i + (n - j)), none⟩) (n - (i + (n - j))) (c - (i + (n - j)))]).run Try.prog W1 = .ok (.tuple #[]) (W1.setCells g (off + (i + (n - j))) (List.replicate (n - (i + (n - j))) (.string ⟨#[]⟩))) :=
    fun ty => Lib.run_clear_slice W1 _ 9 ty _ sl_s (fun W => by rfl) rfl rfl g (off + (i + (n - j))) _ _ (by omega) (fun t ht => by rw [b1.cell, Array.getElem?_eq_getElem (by rw [b2]; omega)]; rfl) (fun t ht => b1.frozen _)
  obtain ⟨cur2, d1, d2, d3, d4⟩ := Blk.sets (List.replicate (n - (i + (n - j))) (.string ⟨#[]⟩ : Value)) (off + (i + (n - j))) W1 cur1 b1 (by rw [List.length_replicate, b2]; omega)
  have hgb2 := gb_sets (a := w) (g := g) (List.replicate (n - (i + (n - j))) (.string ⟨#[]⟩ : Value)) (off + (i + (n - j))) W1 hgb
  have HFIN := Lib.hid (show FreeN 1 (W1.setCells g (off + (i + (n - j))) (List.replicate (n - (i + (n - j))) (.string ⟨#[]⟩))) base 9 (some ⟨g, off, none⟩) (i + (n - j)) c (xs.take i ++ xs.drop j) ∧ w.grownBy (W1.setCells g (off + (i + (n - j))) (List.replicate (n - (i + (n - j))) (.string ⟨#[]⟩))) (foot (some ⟨g, off, none⟩) c) by
    refine ⟨⟨by rw [List.length_append, List.length_take, List.length_drop]; omega, by omega, hcm, fun _ => ⟨g, off, cur2, rfl, hg, d1, by rw [d2, b2, Nat.mul_one]; exact hs, fun k hk => ?_⟩⟩, ?_⟩
    · rw [Nat.mul_one] at hk
      rw [d3 _ (.inl (by omega))]
      by_cases hki : k < i
      · rw [b3 _ (.inl (by omega)), hx k (by omega), List.getElem?_append_left (by rw [List.length_take]; omega), List.getElem?_take, if_pos hki]
      · rw [List.getElem?_append_right (by rw [List.length_take]; omega), List.length_take, ← hnews, show min i xs.length = i by omega, ← b4 (k - i) (by rw [hlen]; omega)]
        congr 1
        omega
    · unfold foot
      rw [if_pos hc]
      exact hgb2)
  have hW : Hid (W1 = w.drew.setCells g (off + i * 1) news) := hW1
  have hic : i ≤ c := by omega
  have hjc : j ≤ c := by omega
  have hin : i ≠ j := by omega
  have hcm2 : (c : Int) ≤ 9223372036854775807 := by have : maxLen = 9223372036854775807 := rfl; omega
  clear hW1 hget hnews hlen hx hB hs b1 b2 b3 b4 d1 d2 d3 d4 hgb hgb2 hxl h1 hrow hcm hz0 hz2
  go_enter Try.func28, Try.ntmps28
  go_wp2_with fail
  go_region_law (refine step_append_room rfl (.tmp 22) (.tmp 25) 22 rfl 9 i0 1 sl_s hi0 hz1 g off i c (by simp [Act.eval, Act.put]) A2 (n - j) (c - j) news (by simp [Act.eval, Act.put]) s1.out hsrc.out s2.out (by omega) s3.out ?_; rw [← hW.out])
  go_wp2
  go_ret
  exact ⟨rfl, HFIN.out⟩

theorem s_at {w : World} {base : Nat} {A : Option Addr} {n c : Nat} {l : List ByteArray} (hf : FreeN 1 w base 9 A n c (scs l)) (hl : l.length = n) (i : Nat) (hi : i < l.length) : ∃ b off, A = some ⟨b, off, none⟩ ∧ w.cell? ⟨b, off + i, none⟩ = some (.string l[i]) := by
  obtain ⟨b, off, cur, hA, _, hB, _, hx⟩ := hf.2.2.2 (by have := hf.2.1; omega)
  refine ⟨b, off, hA, ?_⟩
  rw [hB.cell, hx i (by omega)]
  simp [scs, hi]

end Go.Proofs.Ytgioaapflilhhab
