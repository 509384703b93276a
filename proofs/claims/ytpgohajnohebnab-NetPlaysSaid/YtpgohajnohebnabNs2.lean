/- The walks of package net, of things of type string: Take and Double. -/
import Derived.Test.YtpgohajnohebnabNs1
import Derived.Deep.LoopGhost
namespace Go.Proofs.Ytpgohajnohebnab
open Go.RowKit

set_option maxRecDepth 100000 in
set_option maxHeartbeats 1600000 in
/-- slices.Delete, of one or more amid a row -/
theorem sDelete_any (base : Nat) (A : Option Addr) (n c i j : Nat) (xs : List Value) (w : World) (hf : FreeN 1 w base 9 A n c xs) (h1 : ∀ u ∈ xs, u.oneCell' = true) (hij : i < j) (hj : j ≤ n) :
    Calls Try.prog 22 #[.slice A n c, .int .i64 (i : Int), .int .i64 (j : Int)] w fun e w' => e = .returned (.slice A (i + (n - j)) c) ∧ FreeN 1 w' base 9 A (i + (n - j)) c (xs.take i ++ xs.drop j) ∧ w.grownBy w' (foot A c) := by
  obtain ⟨i0, hi0, hz0, hz1, hz2⟩ := info_parts s_row
  have hc : 0 < c := by have := hf.2.1; omega
  obtain ⟨hxl, hnc, hcm, hrow⟩ := hf
  obtain ⟨g, off, cur, rfl, hg, hB, hs, hx⟩ := hrow hc
  rw [Nat.mul_one] at hxl hs
  obtain ⟨news, hnews⟩ : ∃ news, news = xs.drop j := ⟨_, rfl⟩
  have hlen : news.length = n - j := by rw [hnews, List.length_drop, hxl]
  have hget : ∀ t, t < n - j → w.cell? ⟨g, off + (j + t), none⟩ = news[t]? := by
    intro t ht
    rw [hB.cell, hx (j + t) (by omega), hnews, List.getElem?_drop]
  obtain ⟨A2, hA, hsrc⟩ : ∃ A2 : Addr, (if c = j then (some ⟨g, off, none⟩ : Option Addr) else some ⟨g, off + j, none⟩) = some A2 ∧ Hid (∀ t u, news[t]? = some u → w.drew.cell? (A2.add t) = some u) := by
    by_cases h : c = j
    · refine ⟨⟨g, off, none⟩, by simp [h], fun t u hu => ?_⟩
      have h0 : news.length = 0 := by rw [hlen]; omega
      rw [List.length_eq_zero_iff.1 h0] at hu
      simp at hu
    · refine ⟨⟨g, off + j, none⟩, by simp [h], fun t u hu => ?_⟩
      have ht : t < n - j := by
        have := (List.getElem?_eq_some_iff.1 hu).1
        rwa [hlen] at this
      rw [Addr.add_lit, show off + j + t = off + (j + t) by omega]
      exact (hget t ht).trans hu
  have s1 : Hid (news.length = (n - j) * 1) := by rw [Nat.mul_one]; exact hlen
  have s2 : Hid (∀ u ∈ news, u.oneCell' = true) := fun u hu => h1 u (List.mem_of_mem_drop (by rw [← hnews]; exact hu))
  have s3 : Hid (∀ t, t < news.length → (w.drew.cell? ⟨g, off + i * 1 + t, none⟩).isSome = true ∧ w.drew.frozen? ⟨g, off + i * 1 + t, none⟩ = false) := by
    intro t ht
    rw [hlen] at ht
    refine ⟨?_, hB.frozen _⟩
    show (w.cell? _).isSome = true
    rw [hB.cell, Array.getElem?_eq_getElem (by omega)]
    rfl
  obtain ⟨cur1, b1, b2, b3, b4⟩ := Blk.sets news (off + i * 1) w.drew cur hB (by rw [hlen]; omega)
  have hgb := gb_sets (a := w) (g := g) news (off + i * 1) w.drew (gb_drew (gb_refl _ _))
  obtain ⟨W1, hW1⟩ : ∃ W1, W1 = w.drew.setCells g (off + i * 1) news := ⟨_, rfl⟩
  rw [← hW1] at b1 hgb
  have hcl : ∀ ty, (Builtin.clear_ #[42] ty #[.slice (some ⟨g, off + (i + (n - j)), none⟩) (n - (i + (n - j))) (c - (i + (n - j)))]).run Try.prog W1 = .ok (.tuple #[]) (W1.setCells g (off + (i + (n - j))) (List.replicate (n - (i + (n - j))) (.string ⟨#[]⟩))) :=
    fun ty => Lib.run_clear_slice W1 _ 9 ty _ sl_s (fun W => by rfl) rfl rfl g (off + (i + (n - j))) _ _ (by omega) (fun t ht => by rw [b1.cell, Array.getElem?_eq_getElem (by rw [b2]; omega)]; rfl) (fun t ht => b1.frozen _)
  obtain ⟨cur2, d1, d2, d3, d4⟩ := Blk.sets (List.replicate (n - (i + (n - j))) (.string ⟨#[]⟩ : Value)) (off + (i + (n - j))) W1 cur1 b1 (by rw [List.length_replicate, b2]; omega)
  have hgb2 := gb_sets (a := w) (g := g) (List.replicate (n - (i + (n - j))) (.string ⟨#[]⟩ : Value)) (off + (i + (n - j))) W1 hgb
  have HFIN := Lib.hid (show FreeN 1 (W1.setCells g (off + (i + (n - j))) (List.replicate (n - (i + (n - j))) (.string ⟨#[]⟩))) base 9 (some ⟨g, off, none⟩) (i + (n - j)) c (xs.take i ++ xs.drop j) ∧ w.grownBy (W1.setCells g (off + (i + (n - j))) (List.replicate (n - (i + (n - j))) (.string ⟨#[]⟩))) (foot (some ⟨g, off, none⟩) c) by
    refine ⟨⟨by rw [List.length_append, List.length_take, List.length_drop]; omega, by omega, hcm, fun _ => ⟨g, off, cur2, rfl, hg, d1, by rw [d2, b2, Nat.mul_one]; exact hs, fun k hk => ?_⟩⟩, ?_⟩
    · rw [Nat.mul_one] at hk
      rw [d3 _ (.inl (by omega))]
      by_cases hki : k < i
      · rw [b3 _ (.inl (by omega)), hx k (by omega), List.getElem?_append_left (by rw [List.length_take]; omega), List.getElem?_take, if_pos hki]
      · rw [List.getElem?_append_right (by rw [List.length_take]; omega), List.length_take, ← hnews, show min i xs.length = i by omega, ← b4 (k - i) (by rw [hlen]; omega)]
        congr 1
        omega
    · unfold foot
      rw [if_pos hc]
      exact hgb2)
  have hW : Hid (W1 = w.drew.setCells g (off + i * 1) news) := hW1
  have hic : i ≤ c := by omega
  have hjc : j ≤ c := by omega
  have hin : i ≠ j := by omega
  have hcm2 : (c : Int) ≤ 9223372036854775807 := by have : maxLen = 9223372036854775807 := rfl; omega
  clear hW1 hget hnews hlen hx hB hs b1 b2 b3 b4 d1 d2 d3 d4 hgb hgb2 hxl h1 hrow hcm hz0 hz2
  go_enter Try.func22, Try.ntmps22
  go_wp2_with fail
  go_region_law (refine step_append_room rfl (.tmp 22) (.tmp 25) 42 rfl 9 i0 1 sl_s hi0 hz1 g off i c (by simp [Act.eval, Act.put]) A2 (n - j) (c - j) news (by simp [Act.eval, Act.put]) s1.out hsrc.out s2.out (by omega) s3.out ?_; rw [← hW.out])
  go_wp2
  go_ret
  exact ⟨rfl, HFIN.out⟩

theorem s_at {w : World} {base : Nat} {A : Option Addr} {n c : Nat} {l : List ByteArray} (hf : FreeN 1 w base 9 A n c (scs l)) (hl : l.length = n) (i : Nat) (hi : i < l.length) : ∃ b off, A = some ⟨b, off, none⟩ ∧ w.cell? ⟨b, off + i, none⟩ = some (.string l[i]) := by
  obtain ⟨b, off, cur, hA, _, hB, _, hx⟩ := hf.2.2.2 (by have := hf.2.1; omega)
  refine ⟨b, off, hA, ?_⟩
  rw [hB.cell, hx i (by omega)]
  simp [scs, hi]

set_option maxRecDepth 100000 in
set_option maxHeartbeats 1600000 in
/-- (*net.Net).Take, of one that there is -/
theorem sTake_any (base g : Nat) (f : Option Nat) (l : List ByteArray) (i : Nat) (w : World) (h : sNet w base g f l) (hi : i < l.length) (hl : l.length ≤ 1048576) :
    Calls Try.prog 16 #[.pointer (some ⟨g, 0, none⟩), .int .i64 (i : Int)] w fun e w' => e = .returned (.tuple #[.string l[i], .int .i64 0]) ∧ sMoves w base g f (l.eraseIdx i) w' := by
  have HH := Lib.hid (show (decide (0 ≤ (i : Int)) && decide ((i : Int) < (l.length : Int))) = true by simp; omega)
  have HHA := Lib.hid (sHas_any base g f l i w h)
  rw [HH.out] at HHA
  obtain ⟨A, c, c0, f0, hb, hg, hf, rfl⟩ := NetAt.cell h
  rw [scs_len] at c0 hb hf
  obtain ⟨b, off, rfl, hcell⟩ := s_at hf rfl i hi
  have HD := Lib.hid (sDelete_any base (some ⟨b, off, none⟩) l.length c i (i + 1) (scs l) w hf (scs_one l) (by omega) (by omega))
  rw [drop_take_erase, scs_erase] at HD
  have HBK := Lib.hid hb
  have HG := Lib.hid hg
  have HF := Lib.hid hf
  have HLN := Lib.hid (show i + (l.length - (i + 1)) = (scs (l.eraseIdx i)).length by rw [scs_len, List.length_eraseIdx, if_pos hi]; omega)
  have hw1 := wrap_near (i := (i : Int)) (by omega) (by omega)
  have hil : (i : Int) < (l.length : Int) := by omega
  obtain ⟨v, hv⟩ : ∃ v, l[i] = v := ⟨_, rfl⟩
  rw [hv] at hcell ⊢
  clear h hb hg hf hv hl
  go_enter Try.func16, Try.ntmps16
  go_wp2_with fail
  refine HHA.out.mono ?_
  rintro e w1 ⟨rfl, rfl⟩
  go_wp2_with fail
  refine HD.out.mono ?_
  rintro e w2 ⟨rfl, hf2, hg2⟩
  obtain ⟨c1, f1, hmv⟩ := NetAt.stored (tn := 50) (by decide) HBK.out HG.out HF.out hg2 hf2 (.inl (by
    unfold foot
    rfl)) HLN.out
  have HM := Lib.hid hmv
  clear hf2 hg2 hmv
  go_wp2_with fail
  go_ret2
  exact ⟨rfl, HM.out⟩

set_option maxRecDepth 100000 in
/-- (*net.Net).Take, of one that there isn't -/
theorem sTake_none (base g : Nat) (f : Option Nat) (l : List ByteArray) (i : Int) (w : World) (h : sNet w base g f l) (hi : ¬ (0 ≤ i ∧ i < (l.length : Int))) :
    Calls Try.prog 16 #[.pointer (some ⟨g, 0, none⟩), .int .i64 i] w fun e w' => e = .returned (.tuple #[.string ⟨#[]⟩, .int .i64 6]) ∧ w' = w := by
  have HH := Lib.hid (show (decide (0 ≤ i) && decide (i < (l.length : Int))) = false by rw [Bool.and_eq_false_iff, decide_eq_false_iff_not, decide_eq_false_iff_not]; omega)
  have HHA := Lib.hid (sHas_any base g f l i w h)
  rw [HH.out] at HHA
  clear h hi
  go_enter Try.func16, Try.ntmps16
  go_wp2_with fail
  refine HHA.out.mono ?_
  rintro e w1 ⟨rfl, rfl⟩
  go_wp2_with fail
  go_ret2
  exact ⟨rfl, rfl⟩
set_option maxRecDepth 100000 in
/-- (*net.Net).Take, of no net -/
theorem sTake_nil (i : Int) (w : World) :
    Calls Try.prog 16 #[.pointer none, .int .i64 i] w fun e w' => e = .returned (.tuple #[.string ⟨#[]⟩, .int .i64 1]) ∧ w' = w := by
  go_enter Try.func16, Try.ntmps16
  go_wp2_with fail
  go_ret2
  exact ⟨rfl, rfl⟩

set_option maxRecDepth 100000 in
/-- (*net.Net).Double, of one that there is -/
theorem sDouble_any (base g : Nat) (f : Option Nat) (l : List ByteArray) (i : Nat) (w : World) (h : sNet w base g f l) (hi : i < l.length) (hB : base ≤ w.heap.size) :
    Calls Try.prog 15 #[.pointer (some ⟨g, 0, none⟩), .int .i64 (i : Int)] w fun e w' => e = .returned (.int .i64 ((sendFs l l[i]).2 : Int)) ∧ sMoves w base g f (sendFs l l[i]).1 w' := by
  have HH := Lib.hid (show (decide (0 ≤ (i : Int)) && decide ((i : Int) < (l.length : Int))) = true by simp; omega)
  have HHA := Lib.hid (sHas_any base g f l i w h)
  rw [HH.out] at HHA
  have HSE := Lib.hid (sSend_any base g f l l[i] w h hB)
  obtain ⟨A, c, c0, f0, hb, hg, hf, _⟩ := NetAt.cell h
  rw [scs_len] at c0 hf
  obtain ⟨b, off, rfl, hcell⟩ := s_at hf rfl i hi
  have hil : (i : Int) < (l.length : Int) := by omega
  obtain ⟨v, hv⟩ : ∃ v, l[i] = v := ⟨_, rfl⟩
  rw [hv] at hcell HSE ⊢
  clear h hb hg hf hv hB
  go_enter Try.func15, Try.ntmps15
  go_wp2_with fail
  refine HHA.out.mono ?_
  rintro e w1 ⟨rfl, rfl⟩
  go_wp2_with fail
  refine HSE.out.mono ?_
  rintro e w2 ⟨rfl, hm⟩
  have HM := Lib.hid hm
  clear hm
  go_wp2_with fail
  go_ret
  exact ⟨rfl, HM.out⟩
set_option maxRecDepth 100000 in
/-- (*net.Net).Double, of one that there isn't -/
theorem sDouble_none (base g : Nat) (f : Option Nat) (l : List ByteArray) (i : Int) (w : World) (h : sNet w base g f l) (hi : ¬ (0 ≤ i ∧ i < (l.length : Int))) :
    Calls Try.prog 15 #[.pointer (some ⟨g, 0, none⟩), .int .i64 i] w fun e w' => e = .returned (.int .i64 6) ∧ w' = w := by
  have HH := Lib.hid (show (decide (0 ≤ i) && decide (i < (l.length : Int))) = false by rw [Bool.and_eq_false_iff, decide_eq_false_iff_not, decide_eq_false_iff_not]; omega)
  have HHA := Lib.hid (sHas_any base g f l i w h)
  rw [HH.out] at HHA
  clear h hi
  go_enter Try.func15, Try.ntmps15
  go_wp2_with fail
  refine HHA.out.mono ?_
  rintro e w1 ⟨rfl, rfl⟩
  go_wp2_with fail
  go_ret
  exact ⟨rfl, rfl⟩
end Go.Proofs.Ytpgohajnohebnab
