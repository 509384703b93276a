/- The library's contract on putting a text into a slice of texts, said over slices that may be written. -/
import Derived.Test.YtgioaapflilhhabRt3
import Derived.Test.YtgioaapflilhhabRtL
namespace Go.Proofs.Ytgioaapflilhhab
open Go.RowKit

theorem ins_get (l : List ByteArray) (i : Nat) (key : ByteArray) (hi : i ≤ l.length) (j : Nat) : (txs (l.take i ++ key :: l.drop i))[j]? = if j < i then (txs l)[j]? else if j = i then some (.string key) else (txs l)[j - 1]? := by
  simp only [txs, List.map_append, List.map_cons, List.getElem?_append, List.length_map, List.length_take, List.getElem?_map]
  rw [Nat.min_eq_left hi]
  by_cases h1 : j < i
  · rw [if_pos h1, if_pos h1, List.getElem?_take, if_pos h1]
  · rw [if_neg h1, if_neg h1]
    by_cases h2 : j = i
    · subst h2
      simp
    · rw [if_neg h2]
      obtain ⟨k, hk⟩ : ∃ k, j - i = k + 1 := ⟨j - i - 1, by omega⟩
      rw [hk, List.getElem?_cons_succ, List.getElem?_map, List.getElem?_drop, show i + k = j - 1 by omega]
theorem ins_len (l : List ByteArray) (i : Nat) (key : ByteArray) (hi : i ≤ l.length) : (txs (l.take i ++ key :: l.drop i)).length = l.length + 1 := by
  simp only [txs_length, List.length_append, List.length_take, List.length_cons, List.length_drop]
  omega
theorem below_sets {w0 w : World} {B g : Nat} (h : Below B w0 w) (hg : B ≤ g) (hB : B ≤ w.heap.size) (o : Nat) (vs : List Value) : Below B w0 (w.setCells g o vs) :=
  h.grown (gb_sets vs o w (gb_refl w (some g))) hB (fun k hk => by injection hk with hk; omega)

theorem insert_any (base : Nat) (A : Option Addr) (n c : Nat) (l : List ByteArray) (i vb : Nat) (key : ByteArray) (w : World)
    (hf : FreeN 1 w base 9 A n c (txs l)) (hi : i ≤ n) (hv : Blk w vb 9 #[.string key]) (hvA : foot A c ≠ some vb) (hn : n ≤ 1000) (hbase : base ≤ w.heap.size) :
    Calls Try.prog 27 #[.slice A n c, .int .i64 (i : Int), .slice (some ⟨vb, 0, none⟩) 1 1] w fun e w' =>
      ∃ A' c', e = .returned (.slice A' (n + 1) c') ∧ FreeN 1 w' base 9 A' (n + 1) c' (txs (l.take i ++ key :: l.drop i)) ∧ Below base w w' := by
  have hln : l.length = n := by have := hf.1; rwa [txs_length, Nat.mul_one] at this
  have hnc := hf.2.1
  have hcm := hf.2.2.1
  have hc63 : c ≤ 9223372036854775807 := by unfold maxLen at hcm; exact hcm
  have hvs : ∀ j v, ([Value.string key])[j]? = some v → w.cell? ⟨vb, 0 + j, none⟩ = some v := fun j v hj => by
    rw [hv.cell, Nat.zero_add]
    simpa using hj
  have h1v : ∀ v ∈ [Value.string key], v.oneCell' = true := fun v hv => by
    rw [List.mem_singleton] at hv
    subst hv
    rfl
  by_cases hroom : n + 1 ≤ c
  · obtain ⟨g, off, cur, rfl, hg, hB, hsz, hcur⟩ := hf.2.2.2 (by omega)
    have hvg : vb ≠ g := fun e => hvA (by unfold foot; rw [if_pos (by omega)]; simp [e])
    have hfr : ∀ o, w.frozen? ⟨g, o, none⟩ = false := fun o => hB.frozen o
    have hcl : ∀ j, j < c → (w.cell? ⟨g, off + j, none⟩).isSome = true := fun j hj => by
      rw [hB.cell, Array.getElem?_eq_getElem (by omega)]
      rfl
    by_cases hin : i = n
    · subst hin
      refine (Any2.slices_Insert_string_end_room laysInsert g off i c vb 0 1 1 [.string key] w (by omega) hroom hc63 rfl (fun j hj => by rw [Nat.add_assoc]; exact hcl _ (by omega)) (fun j _ => hfr _) hvs h1v).mono fun e w' ⟨he, hw⟩ => ?_
      subst hw
      refine ⟨some ⟨g, off, none⟩, c, he, ⟨by rw [ins_len l i key (by omega), Nat.mul_one, hln], hroom, hcm, fun _ => ⟨g, off, _, rfl, hg, hB.set_ (off + i) (.string key), by simpa using hsz, fun j hj => ?_⟩⟩, below_sets (Below.refl _ _) hg hbase _ _⟩
      rw [ins_get l i key (by omega), Array.getElem?_setIfInBounds]
      by_cases hji : j = i
      · subst hji
        rw [if_pos rfl, if_pos (by omega), if_neg (by omega), if_pos rfl]
      · rw [if_neg (by omega), if_pos (show j < i by omega)]
        exact hcur j (by omega)
    · refine (Any2.slices_Insert_string_shift laysInsert g off n c i vb 0 1 1 (txs l) [.string key] w (by omega) (by omega) hroom hc63 hvg (by rw [txs_length, hln]) rfl (fun j v hj => ?_) (fun j hj => hcl j (by omega)) (fun j _ => hfr _) hvs (txs_one l) h1v _ _ _ _ hv.shape hB.shape (by omega) (hv.frozen 0) (hv.frozen 1)).mono fun e w' ⟨he, hw⟩ => ?_
      · have hj' : j < n := by
          have := (List.getElem?_eq_some_iff.1 hj).1
          rwa [txs_length, hln] at this
        rw [hB.cell, hcur j (by omega)]
        exact hj
      · subst hw
        have hdl : ((txs l).drop i).length = n - i := by rw [List.length_drop, txs_length, hln]
        obtain ⟨cur1, k1, k2, k3, k4⟩ := Blk.sets ((txs l).drop i) (off + (i + 1)) w.drew cur hB.drew (by rw [hdl]; omega)
        obtain ⟨cur2, m1, m2, m3, m4⟩ := Blk.sets [.string key] (off + i) _ cur1 k1 (by rw [k2]; simp; omega)
        refine ⟨some ⟨g, off, none⟩, c, he, ⟨by rw [ins_len l i key (by omega), Nat.mul_one, hln], hroom, hcm, fun _ => ⟨g, off, cur2, rfl, hg, m1, by omega, fun j hj => ?_⟩⟩, below_sets (below_sets (Below.refl base w).drew hg hbase _ _) hg (Nat.le_trans hbase (below_sets (Below.refl base w).drew hg hbase _ _).size) _ _⟩
        rw [ins_get l i key (by omega)]
        by_cases h1 : j < i
        · rw [if_pos h1, m3 _ (.inl (by omega)), k3 _ (.inl (by omega))]
          exact hcur j (by omega)
        · rw [if_neg h1]
          by_cases h2 : j = i
          · subst h2
            rw [if_pos rfl]
            have := m4 0 (by simp)
            simpa using this
          · rw [if_neg h2, m3 _ (.inr (by simp; omega)), show off + j = off + (i + 1) + (j - i - 1) by omega, k4 _ (by rw [hdl]; omega), List.getElem?_drop, show i + (j - i - 1) = j - 1 by omega]
  · have hbig : (n + 1) * 16 ≤ 140737488355328 := by omega
    have hgc := grownCap_ge w (n + 1) c 9
    have hgm := grownCap_le_maxLen w (n + 1) c 9 (by unfold maxLen; omega)
    have hsee := hf.sees
    rw [Nat.mul_one] at hsee
    have hzc : (Value.string ⟨#[]⟩).cells.size = 1 := rfl
    by_cases hin : i = n
    · subst hin
      refine (Any2.slices_Insert_string_end_grow laysInsert A i c vb 0 1 1 (txs l) [.string key] w (by omega) hnc (by omega) hbig (by rw [txs_length, hln]) rfl (fun hA => ?_) (fun a hA j v hj => ?_) hvs h1v).mono fun e w' ⟨he, hw⟩ => ?_
      · rcases Nat.eq_zero_or_pos i with h0 | h0
        · exact h0
        · obtain ⟨b, off, hA', _⟩ := hsee.2 h0
          rw [hA] at hA'
          cases hA'
      · have hj' : j < i := by
          have := (List.getElem?_eq_some_iff.1 hj).1
          rwa [txs_length, hln] at this
        obtain ⟨b, off, hA', _, hcell⟩ := hsee.2 (by omega)
        rw [hA] at hA'
        injection hA' with hA'
        subst hA'
        rw [Addr.add_lit]
        exact hcell j v hj
      · rw [show laysInsert_ren.t 9 = 9 from rfl] at he hw
        subst hw
        generalize grownCap w (i + 1) c 9 = G at *
        have hbk := Blk.new w.drew 9 ((txs l ++ [Value.string key]).toArray ++ Builtin.zeroCells (Value.string ⟨#[]⟩).cells (G - (i + 1)))
        refine ⟨some ⟨w.heap.size, 0, none⟩, G, he, ⟨by rw [ins_len l i key (by omega), Nat.mul_one, hln], hgc, hgm, fun _ => ⟨w.heap.size, 0, _, rfl, hbase, hbk, ?_, fun j hj => ?_⟩⟩, (Below.refl base w).drew.alloc hbase _⟩
        · simp [size_zeroCells, hzc, hln]
          omega
        · have hlen : (txs l ++ [Value.string key]).toArray.size = i + 1 := by simp [hln]
          rw [Nat.zero_add, Array.getElem?_append_left (by rw [hlen]; omega), ins_get l i key (by omega), List.getElem?_toArray]
          by_cases hji : j = i
          · subst hji
            rw [if_neg (by omega), if_pos rfl, List.getElem?_append_right (by rw [txs_length]; omega), txs_length, hln]
            simp
          · rw [if_pos (by omega), List.getElem?_append_left (by rw [txs_length]; omega)]
    · obtain ⟨g, off, rfl, _, hcell⟩ := hsee.2 (by omega)
      refine (Any2.slices_Insert_string_grow laysInsert g off n c i vb 0 1 1 (txs l) [.string key] w (by omega) (by omega) hnc (by omega) hbig (by rw [txs_length, hln]) rfl hcell hvs (txs_one l) h1v).mono fun e w' ⟨he, hw⟩ => ?_
      rw [show laysInsert_ren.t 9 = 9 from rfl] at he hw
      subst hw
      generalize grownCap w (n + 1) c 9 = G at *
      have hdl : ((txs l).drop i).length = n - i := by rw [List.length_drop, txs_length, hln]
      have htl : ((txs l).take i).length = i := by rw [List.length_take, txs_length, hln]; omega
      have hbk := Blk.new w 9 (((txs l).take i).toArray ++ Builtin.zeroCells (Value.string ⟨#[]⟩).cells (n + 1 - i) ++ Builtin.zeroCells (Value.string ⟨#[]⟩).cells (G - (n + 1)))
      have hks : (((txs l).take i).toArray ++ Builtin.zeroCells (Value.string ⟨#[]⟩).cells (n + 1 - i) ++ Builtin.zeroCells (Value.string ⟨#[]⟩).cells (G - (n + 1))).size = G := by
        simp only [Array.size_append, size_zeroCells, hzc, List.size_toArray, htl]
        omega
      obtain ⟨cur1, k1, k2, k3, k4⟩ := Blk.sets [.string key] i _ _ hbk.drew (by rw [hks]; simp; omega)
      obtain ⟨cur2, m1, m2, m3, m4⟩ := Blk.sets ((txs l).drop i) (i + 1) _ cur1 k1.drew (by rw [k2, hks, hdl]; omega)
      refine ⟨some ⟨w.heap.size, 0, none⟩, G, he, ⟨by rw [ins_len l i key (by omega), Nat.mul_one, hln], hgc, hgm, fun _ => ⟨w.heap.size, 0, cur2, rfl, hbase, m1, by rw [m2, k2, hks]; omega, fun j hj => ?_⟩⟩, ?_⟩
      · rw [Nat.zero_add, ins_get l i key (by omega)]
        by_cases h1 : j < i
        · rw [if_pos h1, m3 _ (.inl (by omega)), k3 _ (.inl h1), Array.getElem?_append_left (by simp only [Array.size_append, List.size_toArray, htl]; omega), Array.getElem?_append_left (by simp only [List.size_toArray, htl]; omega), List.getElem?_toArray, List.getElem?_take, if_pos h1]
        · rw [if_neg h1]
          by_cases h2 : j = i
          · subst h2
            rw [if_pos rfl, m3 _ (.inl (by omega))]
            have := k4 0 (by simp)
            simpa using this
          · rw [if_neg h2, show j = i + 1 + (j - i - 1) by omega, m4 _ (by rw [hdl]; omega), List.getElem?_drop, show i + (j - i - 1) = i + 1 + (j - i - 1) - 1 by omega]
      · have hb1 := ((Below.refl base w).alloc hbase (.cells (((txs l).take i).toArray ++ Builtin.zeroCells (Value.string ⟨#[]⟩).cells (n + 1 - i) ++ Builtin.zeroCells (Value.string ⟨#[]⟩).cells (G - (n + 1))) 9)).drew
        have hb2 := (below_sets hb1 hbase (Nat.le_trans hbase hb1.size) i [Value.string key]).drew
        exact below_sets hb2 hbase (Nat.le_trans hbase hb2.size) _ _
end Go.Proofs.Ytgioaapflilhhab
