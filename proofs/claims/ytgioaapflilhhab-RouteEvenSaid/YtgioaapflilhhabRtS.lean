/- The library's contracts on slices of texts, laid at this seat: sorting, and taking each once. -/
import Derived.Test.YtgioaapflilhhabRtL
import Derived.Shelf.Sort.Plain
import Derived.Shelf.Slices.In.SortNone
import Derived.Shelf.Slices.CompactS
import Derived.Lib.SortBridge
namespace Go.Proofs.Ytgioaapflilhhab
open Go.RowKit Go.Shelf Go.Sort

set_option maxRecDepth 100000 in
def laysSort_ren : Go.Shelf.Ren := ⟨fun | 190 => 29 | 125 => 40 | 258 => 39 | 128 => 54 | 129 => 55 | 302 => 46 | 303 => 47 | 304 => 48 | 305 => 49 | 306 => 50 | 307 => 51 | 308 => 35 | 309 => 52 | 310 => 53 | 333 => 58 | 329 => 59 | 330 => 60 | 334 => 61 | 335 => 62 | 336 => 44 | 344 => 63 | n => n, fun | 31 => 22 | 9 => 9 | 3 => 3 | 46 => 77 | 0 => 0 | 51 => 94 | 53 => 96 | 4 => 4 | 183 => 88 | 182 => 87 | 131 => 58 | 5 => 5 | 218 => 98 | 222 => 102 | 228 => 104 | 229 => 105 | n => n, fun | n => n⟩
set_option maxRecDepth 100000 in
theorem laysSort : Go.Proofs.Lays.n190 Try.prog laysSort_ren where
  mixed := by kernel_rfl
  f125 := Try.func40.trans (congrArg some (by kernel_rfl))
  f128 := Try.func54.trans (congrArg some (by kernel_rfl))
  f129 := Try.func55.trans (congrArg some (by kernel_rfl))
  f190 := Try.func29.trans (congrArg some (by kernel_rfl))
  f258 := Try.func39.trans (congrArg some (by kernel_rfl))
  f302 := Try.func46.trans (congrArg some (by kernel_rfl))
  f303 := Try.func47.trans (congrArg some (by kernel_rfl))
  f304 := Try.func48.trans (congrArg some (by kernel_rfl))
  f305 := Try.func49.trans (congrArg some (by kernel_rfl))
  f306 := Try.func50.trans (congrArg some (by kernel_rfl))
  f307 := Try.func51.trans (congrArg some (by kernel_rfl))
  f308 := Try.func35.trans (congrArg some (by kernel_rfl))
  f309 := Try.func52.trans (congrArg some (by kernel_rfl))
  f310 := Try.func53.trans (congrArg some (by kernel_rfl))
  f329 := Try.func59.trans (congrArg some (by kernel_rfl))
  f330 := Try.func60.trans (congrArg some (by kernel_rfl))
  f333 := Try.func58.trans (congrArg some (by kernel_rfl))
  f334 := Try.func61.trans (congrArg some (by kernel_rfl))
  f335 := Try.func62.trans (congrArg some (by kernel_rfl))
  f336 := Try.func44.trans (congrArg some (by kernel_rfl))
  f344 := Try.func63.trans (congrArg some (by kernel_rfl))
  t0 := Try.underlying0
  a0 := Try.isAgg0
  z0 := Try.sizeOf0
  v0 := Try.zeroValue0
  t3 := Try.underlying3
  a3 := Try.isAgg3
  z3 := Try.sizeOf3
  v3 := Try.zeroValue3
  t4 := Try.underlying4
  a4 := Try.isAgg4
  z4 := Try.sizeOf4
  v4 := Try.zeroValue4
  t5 := Try.underlying5
  a5 := Try.isAgg5
  z5 := Try.sizeOf5
  v5 := Try.zeroValue5
  t9 := Try.underlying9
  a9 := Try.isAgg9
  z9 := Try.sizeOf9
  v9 := Try.zeroValue9
  t31 := Try.underlying22
  a31 := Try.isAgg22
  z31 := Try.sizeOf22
  v31 := Try.zeroValue22
  t46 := Try.underlying77
  a46 := Try.isAgg77
  z46 := Try.sizeOf77
  v46 := Try.zeroValue77
  t51 := Try.underlying94
  a51 := Try.isAgg94
  z51 := Try.sizeOf94
  v51 := Try.zeroValue94
  t53 := Try.underlying96
  a53 := Try.isAgg96
  z53 := Try.sizeOf96
  v53 := Try.zeroValue96
  t131 := Try.underlying58
  a131 := Try.isAgg58
  z131 := Try.sizeOf58
  v131 := Try.zeroValue58
  t182 := Try.underlying87
  a182 := Try.isAgg87
  z182 := Try.sizeOf87
  v182 := Try.zeroValue87
  t183 := Try.underlying88
  a183 := Try.isAgg88
  z183 := Try.sizeOf88
  v183 := Try.zeroValue88
  t218 := Try.underlying98
  a218 := Try.isAgg98
  z218 := Try.sizeOf98
  v218 := Try.zeroValue98
  t222 := Try.underlying102
  a222 := Try.isAgg102
  z222 := Try.sizeOf102
  v222 := Try.zeroValue102
  t228 := Try.underlying104
  a228 := Try.isAgg104
  z228 := Try.sizeOf104
  v228 := Try.zeroValue104
  t229 := Try.underlying105
  a229 := Try.isAgg105
  z229 := Try.sizeOf105
  v229 := Try.zeroValue105
set_option maxRecDepth 100000 in
def laysCompact_ren : Go.Shelf.Ren := ⟨fun | 194 => 30 | n => n, fun | 31 => 22 | 9 => 9 | 3 => 3 | 4 => 4 | 0 => 0 | n => n, fun | n => n⟩
set_option maxRecDepth 100000 in
theorem laysCompact : Go.Proofs.Lays.n194 Try.prog laysCompact_ren where
  mixed := by kernel_rfl
  f194 := Try.func30.trans (congrArg some (by kernel_rfl))
  t0 := Try.underlying0
  a0 := Try.isAgg0
  z0 := Try.sizeOf0
  v0 := Try.zeroValue0
  t3 := Try.underlying3
  a3 := Try.isAgg3
  z3 := Try.sizeOf3
  v3 := Try.zeroValue3
  t4 := Try.underlying4
  a4 := Try.isAgg4
  z4 := Try.sizeOf4
  v4 := Try.zeroValue4
  t9 := Try.underlying9
  a9 := Try.isAgg9
  z9 := Try.sizeOf9
  v9 := Try.zeroValue9
  t31 := Try.underlying22
  a31 := Try.isAgg22
  z31 := Try.sizeOf22
  v31 := Try.zeroValue22

/-! ### texts as lists of bytes -/
def bs (l : List ByteArray) : List (List UInt8) := l.map (·.toList)
def tx (s : List UInt8) : ByteArray := ⟨s.toArray⟩
theorem toList_tx (s : List UInt8) : (tx s).toList = s := by
  rw [Lib.toList_data]
  show (s.toArray).toList = s
  simp
theorem tx_toList (s : ByteArray) : tx s.toList = s := toList_inj (toList_tx _)
theorem bs_enc (l : List ByteArray) : (bs l).map encStr = txs l := by
  unfold bs txs
  rw [List.map_map]
  refine List.map_congr_left fun s _ => ?_
  show Value.string (tx s.toList) = _
  rw [tx_toList]
theorem tx_enc (ss : List (List UInt8)) : ss.map encStr = txs (ss.map tx) := by
  unfold txs
  rw [List.map_map]
  rfl
theorem lt_tx (a b : List UInt8) : ltS (tx a) (tx b) = decide (a < b) := by rw [ltS_eq, toList_tx, toList_tx]

/-- what 'each once' keeps of a sorted row -/
theorem compact_up (d : Array (List UInt8)) (hd : ∀ i j, i ≤ j → j < d.size → d[i]! ≤ d[j]!) : ∀ m, m ≤ d.size →
    (Lib.compactUpTo d m).Pairwise (· < ·) ∧ (∀ x, x ∈ Lib.compactUpTo d m ↔ ∃ j, j < m ∧ d[j]! = x)
  | 0, _ => ⟨by simp [Lib.compactUpTo], fun x => by simp [Lib.compactUpTo]⟩
  | m + 1, hm => by
    obtain ⟨h1, h2⟩ := compact_up d hd m (by omega)
    have e : Lib.compactUpTo d (m + 1) = Lib.compactUpTo d m ++ if Lib.keeps d m then [d[m]!] else [] := by
      unfold Lib.compactUpTo
      rw [List.range_succ, List.filter_append, List.map_append]
      congr 1
      by_cases hk : Lib.keeps d m = true <;> simp [hk]
    rw [e]
    by_cases hk : Lib.keeps d m = true
    · rw [if_pos hk]
      have hnew : ∀ x ∈ Lib.compactUpTo d m, x < d[m]! := fun x hx => by
        obtain ⟨j, hj, rfl⟩ := (h2 x).1 hx
        have h0 : m ≠ 0 := by omega
        have hne : d[m]! ≠ d[m - 1]! := by
          simp only [Lib.keeps, decide_eq_true_eq] at hk
          exact hk.resolve_left h0
        have hlt : d[m - 1]! < d[m]! := by
          rcases Classical.em (d[m - 1]! < d[m]!) with h | h
          · exact h
          · exact absurd (List.le_antisymm (List.not_lt.1 h) (hd (m - 1) m (by omega) (by omega))) hne
        rcases Classical.em (d[j]! < d[m]!) with h | h
        · exact h
        · have h3 : d[m]! ≤ d[j]! := List.not_lt.1 h
          have h4 : d[j]! ≤ d[m - 1]! := hd j (m - 1) (by omega) (by omega)
          exact absurd hlt (List.not_lt.2 (List.le_trans h3 h4))
      refine ⟨List.pairwise_append.2 ⟨h1, by simp, fun x hx y hy => ?_⟩, fun x => ?_⟩
      · rw [List.mem_singleton] at hy
        subst hy
        exact hnew x hx
      · rw [List.mem_append, h2, List.mem_singleton]
        constructor
        · rintro (⟨j, hj, h⟩ | h)
          · exact ⟨j, by omega, h⟩
          · exact ⟨m, by omega, h.symm⟩
        · rintro ⟨j, hj, h⟩
          by_cases hjm : j = m
          · subst hjm
            exact .inr h.symm
          · exact .inl ⟨j, by omega, h⟩
    · rw [if_neg hk, List.append_nil]
      refine ⟨h1, fun x => ?_⟩
      rw [h2]
      constructor
      · rintro ⟨j, hj, h⟩
        exact ⟨j, by omega, h⟩
      · rintro ⟨j, hj, h⟩
        by_cases hjm : j = m
        · subst hjm
          have hk' : ¬ (j = 0 ∨ d[j]! ≠ d[j - 1]!) := by simpa [Lib.keeps] using hk
          have h5 : ¬ j = 0 := fun e => hk' (.inl e)
          have h6 : d[j]! = d[j - 1]! := Classical.byContradiction fun e => hk' (.inr e)
          exact ⟨j - 1, by omega, h6.symm.trans h⟩
        · exact ⟨j, by omega, h⟩

/-- texts none of which is ahead of the one before -/
def Up (l : List ByteArray) : Prop := l.Pairwise fun a b => ltS b a = false

theorem row_holds {w : World} {g off n : Nat} {cur : Array Value} {l : List ByteArray} (hB : Blk w g 9 cur) (hln : l.length = n) (hcur : ∀ j, j < n → cur[off + j]? = (txs l)[j]?) : Holds encStr w g off (bs l).toArray := fun j hj => by
  have hj' : j < l.length := by simpa [bs] using hj
  refine ⟨?_, hB.frozen _⟩
  rw [hB.cell, hcur j (by omega), txs_get l j hj']
  have : (bs l).toArray[j]! = l[j].toList := by
    rw [getElem!_pos _ j (by simpa [bs] using hj')]
    simp [bs]
  rw [this]
  show _ = some (Value.string (tx l[j].toList))
  rw [tx_toList]

set_option maxRecDepth 100000 in
theorem ssort_any (base : Nat) (A : Option Addr) (n c : Nat) (l : List ByteArray) (w : World) (hf : FreeN 1 w base 9 A n c (txs l)) (hn : n ≤ 1048576) (hbase : base ≤ w.heap.size) :
    Calls Try.prog 29 #[.slice A n c] w fun e w' => e = .returned (.tuple #[]) ∧ ∃ l', l'.length = n ∧ (∀ x, x ∈ l' ↔ x ∈ l) ∧ Up l' ∧ FreeN 1 w' base 9 A n c (txs l') ∧ Below base w w' := by
  have hln : l.length = n := by have := hf.1; rwa [txs_length, Nat.mul_one] at this
  rcases Nat.eq_zero_or_pos n with h0 | h0
  · subst h0
    have hl : l = [] := List.eq_nil_of_length_eq_zero hln
    subst hl
    exact (Any.slices_Sort_string_none laysSort A c w).mono fun e w' ⟨he, hw⟩ => ⟨he, [], rfl, fun _ => Iff.rfl, List.Pairwise.nil, by rw [hw]; exact hf, by rw [hw]; exact Below.refl _ _⟩
  · obtain ⟨g, off, cur, rfl, hg, hB, hsz, hcur⟩ := hf.2.2.2 (by have := hf.2.1; omega)
    rw [Nat.mul_one] at hsz hcur
    have hH := row_holds hB hln hcur
    have hbl : (bs l).length = n := by simp [bs, hln]
    have h := Any.slices_Sort_string laysSort g off c (bs l) w hH hB.lt (by omega)
    rw [hbl] at h
    refine h.mono ?_
    rintro e w' ⟨rfl, m, os, rfl⟩
    have hl : ((bs l).mergeSort fun x y => decide (x ≤ y)).length = n := by rw [List.length_mergeSort, hbl]
    rw [Lib.sorted_world encStr w g off m (bs l).toArray _ os hH (by simp), tx_enc]
    have hmem : ∀ x, x ∈ ((bs l).mergeSort fun x y => decide (x ≤ y)).map tx ↔ x ∈ l := fun x => by
      rw [List.mem_map]
      constructor
      · rintro ⟨s, hs, rfl⟩
        rw [List.mem_mergeSort] at hs
        obtain ⟨y, hy, rfl⟩ := List.mem_map.1 hs
        rwa [tx_toList]
      · intro hx
        exact ⟨x.toList, List.mem_mergeSort.2 (List.mem_map.2 ⟨x, hx, rfl⟩), tx_toList x⟩
    have hup : Up (((bs l).mergeSort fun x y => decide (x ≤ y)).map tx) := by
      unfold Up
      rw [List.pairwise_map]
      refine (List.pairwise_mergeSort (le := fun x y => decide (x ≤ y)) (fun a b c h k => ?_) (fun a b => ?_) (bs l)).imp fun {a b} h => ?_
      · rw [decide_eq_true_iff] at *
        exact List.le_trans h k
      · rcases List.le_total a b with h | h
        · rw [decide_eq_true h]; rfl
        · rw [decide_eq_true h]; simp
      · rw [lt_tx]
        exact decide_eq_false (List.not_lt.2 (of_decide_eq_true h))
    have hml : (((bs l).mergeSort fun x y => decide (x ≤ y)).map tx).length = n := by rw [List.length_map, hl]
    generalize ((bs l).mergeSort fun x y => decide (x ≤ y)).map tx = l' at *
    obtain ⟨cs', h1, h2, h3, h4⟩ := Blk.sets (txs l') off (w.drewN m) cur (hB.drewN m) (by rw [txs_length, hml]; have := hf.2.1; omega)
    have hgb : w.grownBy ((w.drewN m).setCells g off (txs l')) (some g) := gb_sets _ _ _ (gb_drewN (gb_refl w (some g)) m)
    generalize (w.drewN m).setCells g off (txs l') = W at *
    have hk : ∀ k, k < W.heap.size → (grow W os).heap[k]? = W.heap[k]? := fun k hk => by
      unfold grow
      simp only
      rw [Array.getElem?_append, if_pos hk]
    have hs : W.heap.size ≤ (grow W os).heap.size := by unfold grow; simp
    have hgb2 : w.grownBy (grow W os) (some g) := ⟨hgb.os, hgb.tape, hgb.output, Nat.le_trans hgb.size hs, fun k hk1 hk2 => (hk k (Nat.lt_of_lt_of_le hk1 hgb.size)).trans (hgb.block k hk1 hk2)⟩
    have hb' : Blk (grow W os) g 9 cs' := (hk g h1.lt).trans h1
    refine ⟨rfl, l', hml, hmem, hup, ⟨by rw [txs_length, hml, Nat.mul_one], hf.2.1, hf.2.2.1, fun _ => ⟨g, off, cs', rfl, hg, hb', by rw [h2, Nat.mul_one]; exact hsz, fun j hj => ?_⟩⟩, (Below.refl base w).grown hgb2 hbase (fun k hk => by injection hk with hk; omega)⟩
    exact h4 j (by rw [txs_length, hml]; omega)

set_option maxRecDepth 100000 in
theorem scompact_any (base : Nat) (A : Option Addr) (n c : Nat) (l : List ByteArray) (w : World) (hf : FreeN 1 w base 9 A n c (txs l)) (hup : Up l) (hn : n ≤ 1048576) (hbase : base ≤ w.heap.size) :
    Calls Try.prog 30 #[.slice A n c] w fun e w' => ∃ l', l'.length ≤ n ∧ e = .returned (.slice A l'.length c) ∧ (∀ x, x ∈ l' ↔ x ∈ l) ∧ Rises l' ∧ FreeN 1 w' base 9 A l'.length c (txs l') ∧ Below base w w' := by
  have hln : l.length = n := by have := hf.1; rwa [txs_length, Nat.mul_one] at this
  rcases Nat.eq_zero_or_pos n with h0 | h0
  · subst h0
    have hl : l = [] := List.eq_nil_of_length_eq_zero hln
    subst hl
    exact (Any.slices_Compact_string_empty laysCompact A c w).mono fun e w' ⟨he, hw⟩ => ⟨[], Nat.le_refl _, he, fun _ => Iff.rfl, fun k hk => absurd hk (by simp), by rw [hw]; exact hf, by rw [hw]; exact Below.refl _ _⟩
  · obtain ⟨g, off, cur, rfl, hg, hB, hsz, hcur⟩ := hf.2.2.2 (by have := hf.2.1; omega)
    rw [Nat.mul_one] at hsz hcur
    have hH := row_holds hB hln hcur
    have hbl : (bs l).length = n := by simp [bs, hln]
    have h := Any.slices_Compact_string laysCompact g off c (bs l) w hH (by omega) (by rw [hbl]; exact hf.2.1)
    rw [hbl] at h
    refine h.mono ?_
    rintro e w' ⟨rfl, m, rfl⟩
    have hd : ∀ i j, i ≤ j → j < (bs l).toArray.size → (bs l).toArray[i]! ≤ (bs l).toArray[j]! := fun i j hij hj => by
      have hj' : j < l.length := by simpa [bs] using hj
      have ei : (bs l).toArray[i]! = (l[i]'(by omega)).toList := by
        rw [getElem!_pos _ i (by simp [bs]; omega)]
        simp [bs]
      have ej : (bs l).toArray[j]! = l[j].toList := by
        rw [getElem!_pos _ j (by simp [bs]; omega)]
        simp [bs]
      rw [ei, ej]
      rcases Nat.eq_or_lt_of_le hij with h | h
      · subst h
        exact List.le_refl _
      · have := List.pairwise_iff_getElem.1 hup i j (by omega) hj' h
        rw [ltS_eq, decide_eq_false_iff_not] at this
        exact List.not_lt.1 this
    obtain ⟨c1, c2⟩ := compact_up (bs l).toArray hd n (by simp [bs, hln])
    have ec : Lib.compact (bs l) = Lib.compactUpTo (bs l).toArray n := by unfold Lib.compact; rw [hbl]
    have hcl : (Lib.compact (bs l)).length ≤ n := by
      rw [ec]
      unfold Lib.compactUpTo
      rw [List.length_map]
      exact Nat.le_trans (List.length_filter_le _ _) (by simp)
    have hrow : (Lib.compact (bs l) ++ List.replicate (n - (Lib.compact (bs l)).length) ([] : List UInt8)).length = (bs l).toArray.size := by
      simp only [List.length_append, List.length_replicate, List.size_toArray, hbl]
      omega
    have hw := Lib.sorted_world encStr w g off m (bs l).toArray (Lib.compact (bs l) ++ List.replicate (n - (Lib.compact (bs l)).length) []) #[] hH hrow
    have hg0 : ∀ W : World, grow W #[] = W := fun W => by cases W; simp [grow]
    rw [hg0, hg0] at hw
    rw [hw, List.map_append, tx_enc]
    rw [← ec] at c1 c2
    have hmem : ∀ x, x ∈ (Lib.compact (bs l)).map tx ↔ x ∈ l := fun x => by
      rw [List.mem_map]
      constructor
      · rintro ⟨s, hs, rfl⟩
        obtain ⟨j, hj, rfl⟩ := (c2 s).1 hs
        have : (bs l).toArray[j]! = (l[j]'(by omega)).toList := by
          rw [getElem!_pos _ j (by simp [bs]; omega)]
          simp [bs]
        rw [this, tx_toList]
        exact List.getElem_mem _
      · intro hx
        obtain ⟨j, hj, rfl⟩ := List.mem_iff_getElem.1 hx
        refine ⟨l[j].toList, (c2 _).2 ⟨j, by omega, ?_⟩, tx_toList _⟩
        rw [getElem!_pos _ j (by simp [bs]; omega)]
        simp [bs]
    have hri : Rises ((Lib.compact (bs l)).map tx) := fun k hk => by
      rw [List.length_map] at hk
      have := List.pairwise_iff_getElem.1 c1 k (k + 1) (by omega) hk (by omega)
      simp only [List.getElem_map]
      rw [lt_tx]
      exact decide_eq_true this
    have hml : ((Lib.compact (bs l)).map tx).length = (Lib.compact (bs l)).length := List.length_map ..
    rw [← hml] at hcl ⊢
    generalize (Lib.compact (bs l)).map tx = l' at *
    obtain ⟨cs', h1, h2, h3, h4⟩ := Blk.sets (txs l' ++ (List.replicate (n - l'.length) ([] : List UInt8)).map encStr) off (w.drewN m) cur (hB.drewN m) (by simp only [List.length_append, txs_length, List.length_map, List.length_replicate]; have := hf.2.1; omega)
    have hgb : w.grownBy ((w.drewN m).setCells g off (txs l' ++ (List.replicate (n - l'.length) ([] : List UInt8)).map encStr)) (some g) := gb_sets _ _ _ (gb_drewN (gb_refl w (some g)) m)
    refine ⟨l', hcl, rfl, hmem, hri, ⟨by rw [txs_length, Nat.mul_one], Nat.le_trans hcl hf.2.1, hf.2.2.1, fun _ => ⟨g, off, cs', rfl, hg, h1, by rw [h2, Nat.mul_one]; exact hsz, fun j hj => ?_⟩⟩, (Below.refl base w).grown hgb hbase (fun k hk => by injection hk with hk; omega)⟩
    rw [Nat.mul_one] at hj
    rw [h4 j (by simp only [List.length_append, txs_length]; omega), List.getElem?_append_left (by rw [txs_length]; exact hj)]

/-- rising rows of the same texts are one -/
theorem rises_eq : ∀ (l m : List ByteArray), Rises l → Rises m → (∀ x, x ∈ l ↔ x ∈ m) → l = m
  | [], [], _, _, _ => rfl
  | [], b :: m, _, _, h => absurd ((h b).2 (List.mem_cons_self ..)) (by simp)
  | a :: l, [], _, _, h => absurd ((h a).1 (List.mem_cons_self ..)) (by simp)
  | a :: l, b :: m, hl, hm, h => by
    have least : ∀ {a : ByteArray} {l : List ByteArray}, Rises (a :: l) → ∀ x ∈ l, ltS a x = true := fun {a l} hl x hx => by
      obtain ⟨j, hj, rfl⟩ := List.mem_iff_getElem.1 hx
      exact hl.at_lt (i := 0) (j := j + 1) (by omega) (by simpa using hj)
    have tail : ∀ {a : ByteArray} {l : List ByteArray}, Rises (a :: l) → Rises l := fun {a l} hl k hk => hl (k + 1) (by simpa using hk)
    have hab : a = b := by
      have h1 : a ∈ b :: m := (h a).1 (List.mem_cons_self ..)
      have h2 : b ∈ a :: l := (h b).2 (List.mem_cons_self ..)
      rcases List.mem_cons.1 h1 with h1 | h1
      · exact h1
      · rcases List.mem_cons.1 h2 with h2 | h2
        · exact h2.symm
        · have := ltS_trans (least hm a h1) (least hl b h2)
          rw [ltS_irrefl] at this
          cases this
    subst hab
    congr 1
    refine rises_eq l m (tail hl) (tail hm) fun x => ?_
    constructor
    · intro hx
      rcases List.mem_cons.1 ((h x).1 (List.mem_cons_of_mem _ hx)) with h3 | h3
      · subst h3
        exact absurd rfl (ltS_ne (least hl x hx))
      · exact h3
    · intro hx
      rcases List.mem_cons.1 ((h x).2 (List.mem_cons_of_mem _ hx)) with h3 | h3
      · subst h3
        exact absurd rfl (ltS_ne (least hm x hx))
      · exact h3
end Go.Proofs.Ytgioaapflilhhab
