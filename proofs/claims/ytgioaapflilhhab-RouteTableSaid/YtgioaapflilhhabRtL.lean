/- The library's contracts on slices of texts, laid at this seat: searching by halving, putting in, taking out. -/
import Derived.Test.YtgioaapflilhhabRt1
import Derived.Shelf.Spec.SlicesInsertGrow
import Derived.Shelf.Spec.SearchS
import Derived.Shelf.Slices.Delete
namespace Go.Proofs.Ytgioaapflilhhab
open Go.RowKit

set_option maxRecDepth 100000 in
def laysSearch_ren : Go.Shelf.Ren := ⟨fun | 26 => 26 | 33 => 35 | 34 => 36 | 38 => 44 | n => n, fun | 24 => 22 | 9 => 9 | 3 => 3 | 4 => 4 | 40 => 77 | 0 => 0 | n => n, fun | n => n⟩
set_option maxRecDepth 100000 in
theorem laysSearch : Go.Proofs.Lays2.n26 Try.prog laysSearch_ren where
  mixed := by kernel_rfl
  f26 := Try.func26.trans (congrArg some (by kernel_rfl))
  f33 := Try.func35.trans (congrArg some (by kernel_rfl))
  f34 := Try.func36.trans (congrArg some (by kernel_rfl))
  f38 := Try.func44.trans (congrArg some (by kernel_rfl))
  t0 := Try.underlying0
  a0 := Try.isAgg0
  z0 := Try.sizeOf0
  v0 := Try.zeroValue0
  t3 := Try.underlying3
  a3 := Try.isAgg3
  z3 := Try.sizeOf3
  v3 := Try.zeroValue3
  t4 := Try.underlying4
  a4 := Try.isAgg4
  z4 := Try.sizeOf4
  v4 := Try.zeroValue4
  t9 := Try.underlying9
  a9 := Try.isAgg9
  z9 := Try.sizeOf9
  v9 := Try.zeroValue9
  t24 := Try.underlying22
  a24 := Try.isAgg22
  z24 := Try.sizeOf22
  v24 := Try.zeroValue22
  t40 := Try.underlying77
  a40 := Try.isAgg77
  z40 := Try.sizeOf77
  v40 := Try.zeroValue77
set_option maxRecDepth 100000 in
def laysInsert_ren : Go.Shelf.Ren := ⟨fun | 22 => 27 | 29 => 37 | 30 => 38 | 36 => 45 | 17 => 57 | n => n, fun | 24 => 22 | 9 => 9 | 3 => 3 | 4 => 4 | 0 => 0 | n => n, fun | n => n⟩
set_option maxRecDepth 100000 in
theorem laysInsert : Go.Proofs.Lays2.n22 Try.prog laysInsert_ren where
  mixed := by kernel_rfl
  f17 := Try.func57.trans (congrArg some (by kernel_rfl))
  f22 := Try.func27.trans (congrArg some (by kernel_rfl))
  f29 := Try.func37.trans (congrArg some (by kernel_rfl))
  f30 := Try.func38.trans (congrArg some (by kernel_rfl))
  f36 := Try.func45.trans (congrArg some (by kernel_rfl))
  t0 := Try.underlying0
  a0 := Try.isAgg0
  z0 := Try.sizeOf0
  v0 := Try.zeroValue0
  t3 := Try.underlying3
  a3 := Try.isAgg3
  z3 := Try.sizeOf3
  v3 := Try.zeroValue3
  t4 := Try.underlying4
  a4 := Try.isAgg4
  z4 := Try.sizeOf4
  v4 := Try.zeroValue4
  t9 := Try.underlying9
  a9 := Try.isAgg9
  z9 := Try.sizeOf9
  v9 := Try.zeroValue9
  t24 := Try.underlying22
  a24 := Try.isAgg22
  z24 := Try.sizeOf22
  v24 := Try.zeroValue22
  i9 := by kernel_rfl
set_option maxRecDepth 100000 in
def laysDelete_ren : Go.Shelf.Ren := ⟨fun | 24 => 28 | n => n, fun | 24 => 22 | 9 => 9 | 3 => 3 | 4 => 4 | 0 => 0 | n => n, fun | n => n⟩
set_option maxRecDepth 100000 in
theorem laysDelete : Go.Proofs.Lays2.n24 Try.prog laysDelete_ren where
  mixed := by kernel_rfl
  f24 := Try.func28.trans (congrArg some (by kernel_rfl))
  t0 := Try.underlying0
  a0 := Try.isAgg0
  z0 := Try.sizeOf0
  v0 := Try.zeroValue0
  t3 := Try.underlying3
  a3 := Try.isAgg3
  z3 := Try.sizeOf3
  v3 := Try.zeroValue3
  t4 := Try.underlying4
  a4 := Try.isAgg4
  z4 := Try.sizeOf4
  v4 := Try.zeroValue4
  t9 := Try.underlying9
  a9 := Try.isAgg9
  z9 := Try.sizeOf9
  v9 := Try.zeroValue9
  t24 := Try.underlying22
  a24 := Try.isAgg22
  z24 := Try.sizeOf22
  v24 := Try.zeroValue22
  i9 := by kernel_rfl

theorem search_any (A : Option Addr) (n c : Nat) (l : List ByteArray) (key : ByteArray) (w : World) (B : Nat) (hs : Sees w B A n (txs l)) (hr : Rises l) (hn : n ≤ 1000000) :
    Calls Try.prog 26 #[.slice A n c, .string key] w fun e w' => e = .returned (.tuple #[.int .i64 (lowN l key : Nat), .bool (hasS l key)]) ∧ ∃ q, w' = w.drewN q := by
  obtain rfl : l.length = n := by have := hs.1; rwa [txs_length] at this
  rcases Nat.eq_zero_or_pos l.length with h0 | h0
  · have hl : l = [] := List.eq_nil_of_length_eq_zero h0
    subst hl
    exact (Any2.slices_BinarySearch_string_empty laysSearch A c key w).mono fun e w' ⟨he, hw⟩ => ⟨he, 0, hw⟩
  · obtain ⟨b, off, rfl, _, _⟩ := hs.txt h0
    have hcell : ∀ j, j < l.length → w.cell? ⟨b, off + j, none⟩ = some (.string (l.getD j key)) := fun j hj => by
      obtain ⟨b', off', hA, _, hc⟩ := hs.txt hj
      injection hA with hA
      injection hA with hA1 hA2
      subst hA1
      subst hA2
      rw [hc, List.getD_eq_getElem?_getD, List.getElem?_eq_getElem hj]
      rfl
    have h := Any2.slices_BinarySearch_string laysSearch b off l.length c (fun j => l.getD j key) key w (by omega) hcell
    have hI : Lib.bsGo (fun t => Op.bytesLess (l.getD t key).toList key.toList) l.length 0 l.length = lowN l key := by
      refine Lib.bsGo_spec _ (lowN l key) (fun t ht => ?_) (fun t ht => ?_) _ _ _ (Nat.le_refl _) (Nat.zero_le _) (lowN_le l key)
      · have htl : t < l.length := Nat.lt_of_lt_of_le ht (lowN_le l key)
        have h := lowN_at hr key t htl
        rw [decide_eq_true ht] at h
        show ltS (l.getD t key) key = true
        rw [List.getD_eq_getElem?_getD, List.getElem?_eq_getElem htl]
        exact h
      · show ltS (l.getD t key) key = false
        by_cases htl : t < l.length
        · have h := lowN_at hr key t htl
          rw [decide_eq_false (by omega)] at h
          rw [List.getD_eq_getElem?_getD, List.getElem?_eq_getElem htl]
          exact h
        · rw [List.getD_eq_getElem?_getD, List.getElem?_eq_none (by omega)]
          exact ltS_irrefl key
    rw [hI] at h
    refine h.mono fun e w' ⟨he, hw⟩ => ⟨?_, hw⟩
    rw [he]
    have hb : (decide (lowN l key < l.length ∧ l.getD (lowN l key) key = key)) = hasS l key := by
      rw [Bool.eq_iff_iff, decide_eq_true_iff, hasS_iff]
      constructor
      · rintro ⟨h1, h2⟩
        rw [List.getD_eq_getElem?_getD, List.getElem?_eq_getElem h1] at h2
        exact List.mem_iff_getElem.2 ⟨_, h1, h2⟩
      · intro hm
        obtain ⟨h1, h2⟩ := lowN_mem hr hm
        refine ⟨h1, ?_⟩
        rw [List.getD_eq_getElem?_getD, List.getElem?_eq_getElem h1]
        exact h2
    rw [hb]
end Go.Proofs.Ytgioaapflilhhab
