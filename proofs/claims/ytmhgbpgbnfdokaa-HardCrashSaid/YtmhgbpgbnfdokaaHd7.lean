/- The walks of the disk's Write and of wal.Append once more: a window of blocks, which the disk and its row lie outside of, stays as it was. -/
import Derived.Test.YtmhgbpgbnfdokaaHd6
import Derived.Test.YtmhgbpgbnfdokaaRec5
namespace Go.Proofs.Ytmhgbpgbnfdokaa
open Go.RowKit

theorem Appended.foots {w w' : World} {base n c m c' : Nat} {e : TypeId} {A A' : Option Addr} {xs news : List Value} (h : Appended w base e A n c xs m news A' c' w') : w.grownBy w' (foot A c) ∧ ∀ k, foot A' c' = some k → foot A c = some k ∨ w.heap.size ≤ k := by
  obtain ⟨_, _, hg, h2⟩ := h
  rcases h2 with ⟨rfl, rfl, _, hw⟩ | ⟨hg0, g, rfl, hgs⟩
  · refine ⟨?_, fun k hk => .inl hk⟩
    unfold foot
    by_cases hc : 0 < c'
    · rw [if_pos hc]; exact hg
    · rw [if_neg hc, hw (by omega)]; exact gb_refl _ _
  · refine ⟨gb_any hg0 _, fun k hk => .inr ?_⟩
    unfold foot at hk
    split at hk
    · injection hk with hk
      subst hk
      exact hgs
    · cases hk

/-- blocks of a window are as they were -/
def Win (lo hi : Nat) (w w' : World) : Prop := ∀ k, lo ≤ k → k < hi → w'.heap[k]? = w.heap[k]?
theorem Win.refl (lo hi : Nat) (w : World) : Win lo hi w w := fun _ _ _ => rfl
theorem Win.trans {lo hi : Nat} {a b c : World} (h : Win lo hi a b) (k : Win lo hi b c) : Win lo hi a c := fun i h1 h2 => (k i h1 h2).trans (h i h1 h2)
theorem Win.below {lo hi : Nat} {w w' : World} (h : Below w.heap.size w w') (hh : hi ≤ w.heap.size) : Win lo hi w w' := fun i _ h2 => h.block i (by omega)
theorem Win.step {lo hi g i : Nat} {w w' : World} {f : Option Nat} (h : w.grownBy w' f) (hh : hi ≤ w.heap.size) (hf : ∀ k, f = some k → k < lo ∨ hi ≤ k) (hg : g < lo) (u : Value) : Win lo hi w (w'.setCell ⟨g, i, none⟩ u) := fun k h1 h2 => by
  rw [Below.heap_setCell w' ⟨g, i, none⟩ u k (by simp only; omega)]
  exact h.block k (by omega) (fun e => by have := hf k e.symm; omega)

/-- a disk whose row lies outside of a window -/
def DskO (w : World) (base g : Nat) (all : List UInt8) (s lo hi : Nat) : Prop :=
  ∃ A c, Blk w g 101 #[.slice A all.length c, .int .i64 (s : Int)] ∧ base ≤ g ∧ Free w base 5 A all.length c (cbs all) ∧ s ≤ all.length ∧ ∀ k, foot A c = some k → k < lo ∨ hi ≤ k
section
variable {w w' : World} {base g s lo hi : Nat} {all : List UInt8}
theorem DskO.dsk (h : DskO w base g all s lo hi) : Dsk w base g all s := by
  obtain ⟨A, c, h1, h2, h3, h4, _⟩ := h
  exact ⟨A, c, h1, h2, h3, h4⟩
theorem DskO.on (h : DskO w base g all s lo hi) (hb : Below w.heap.size w w') : DskO w' base g all s lo hi := by
  obtain ⟨A, c, h1, h2, h3, h4, h5⟩ := h
  exact ⟨A, c, h1.below hb h1.lt, h2, h3.on hb, h4, h5⟩
theorem Dsk.out_of (h : Dsk w base g all s) (hlo : w.heap.size ≤ lo) : DskO w base g all s lo hi := by
  obtain ⟨A, c, h1, h2, h3, h4⟩ := h
  refine ⟨A, c, h1, h2, h3, h4, fun k hk => .inl ?_⟩
  unfold foot at hk
  split at hk
  · rename_i hc
    obtain ⟨g', off, cur, rfl, _, hB, _⟩ := h3.2.2.2 hc
    injection hk with hk
    subst hk
    exact Nat.lt_of_lt_of_le hB.lt hlo
  · cases hk
end

set_option maxRecDepth 100000 in
set_option maxHeartbeats 800000 in
/-- (*disk.Disk).Write, and a window -/
theorem dWrite3_any (base g s lo hi : Nat) (all : List UInt8) (A2 : Option Addr) (m c2 : Nat) (l : List UInt8) (w : World) (h : DskO w base g all s lo hi) (hs2 : Sees w w.heap.size A2 m (cbs l)) (hm : m ≤ 140737488351232) (hz : base ≤ w.heap.size) (hall : all.length ≤ 1048576) (hglo : g < lo) (hhi : hi ≤ w.heap.size) :
    Calls Try.prog 72 #[.pointer (some ⟨g, 0, none⟩), .slice A2 m c2] w fun e w' => e = .returned (.int .i64 ((writeF all l).2 : Int)) ∧ DskO w' base g (writeF all l).1 s lo hi ∧ Below base w w' ∧ Win lo hi w w' := by
  have HD := Lib.hid h
  obtain ⟨A, c, hb, hg, hf, hs, ho⟩ := h
  have hlen : l.length = m := by have := hs2.1; simpa using this
  have c0 : w.cell? ⟨g, 0, none⟩ = some (.slice A all.length c) := by rw [hb.cell]; rfl
  have hW : writeF all l = if 1048576 < all.length + m then (all, 7) else (all ++ l, 0) := by unfold writeF; rw [hlen]
  rw [hW]
  clear hW
  by_cases hbig : 1048576 < all.length + m
  · rw [if_pos hbig]
    have hb1 : (1048576 : Int) - (all.length : Int) < (m : Int) := by omega
    clear hb hf hs ho
    go_enter Try.func72, Try.ntmps72
    go_wp2_with fail
    go_ret
    exact ⟨rfl, HD.out, Below.refl _ _, Win.refl _ _ _⟩
  · rw [if_neg hbig]
    have hb1 : ¬ (1048576 : Int) - (all.length : Int) < (m : Int) := by omega
    obtain ⟨i0, hi0, hy0, hy1, hy2⟩ := info_parts u8_row
    have hm1 : all.length + m ≤ maxLen := Nat.le_trans (show all.length + m ≤ 140737488355328 by omega) (by decide)
    have hm2 : (all.length + m) * 1 ≤ 140737488355328 := by omega
    have HB := Lib.hid hb
    have HLEN := Lib.hid hlen
    have HG := Lib.hid hg
    have HS := Lib.hid hs
    have HO := Lib.hid ho
    have HGL := Lib.hid hglo
    have HHI := Lib.hid hhi
    clear hb hlen hbig HD hg hs ho hglo hhi
    go_enter Try.func72, Try.ntmps72
    go_wp2_with (at_builtin; refine wpList_append_free _ rfl (.tmp 20) (.tmp 21) _ rfl base 5 i0 _ 1 sl_u8 hi0 hy0 hy1 hy2 rfl A all.length c (cbs all) rfl hf (cbs_one _) _ A2 m c2 (cbs l) rfl hs2 (cbs_one _) hm1 hm2 hz ?_
                 intro A3 c3 w3 ha
                 have hf3 := ha.1
                 have hb3 := ha.below hf (Below.refl base w) hz (Nat.le_refl _)
                 have hblk3 : Blk w3 g 101 #[.slice A all.length c, .int .i64 (s : Int)] := (by
                   rcases ha.row hf with hgr | ⟨q, cur, _, hq, hgr⟩
                   · exact HB.out.grown hgr (by simp)
                   · refine HB.out.grown hgr (fun e => ?_)
                     injection e with e
                     subst e
                     have h1 := HB.out
                     unfold Blk at h1 hq
                     rw [h1] at hq
                     injection hq with hq
                     injection hq with _ ht
                     exact absurd ht (by decide))
                 have d0 : w3.cell? ⟨g, 0, none⟩ = some (.slice A all.length c) := (by rw [hblk3.cell]; rfl)
                 have f0 := hblk3.frozen 0
                 have HK3 := Lib.hid (Win.step (i := 0) ha.foots.1 HHI.out HO.out HGL.out (.slice A3 (all.length + m) c3))
                 have HO3 := Lib.hid (show ∀ k, foot A3 c3 = some k → k < lo ∨ hi ≤ k from fun k hk => (ha.foots.2 k hk).elim (HO.out k) (fun h => .inr (Nat.le_trans HHI.out h)))
                 rw [← cbs_append] at hf3
                 have HB3 := Lib.hid (hblk3.set_ 0 (.slice A3 (all.length + m) c3))
                 have HF3 := Lib.hid (free_store (k := 0) hblk3 hf3 (.slice A3 (all.length + m) c3))
                 clear ha hf hs2 hblk3 hf3 c0)
    go_ret
    have e1 : (all ++ l).length = all.length + m := by rw [List.length_append, HLEN.out]
    exact ⟨rfl, ⟨A3, c3, by rw [e1]; exact HB3.out, HG.out, by rw [e1]; exact HF3.out, by rw [e1]; have := HS.out; omega, HO3.out⟩, hb3.setCell (by simpa using HG.out) _, HK3.out⟩

set_option maxRecDepth 100000 in
set_option maxHeartbeats 800000 in
/-- wal.Append, and a window -/
theorem wappend3_any (base g s lo hi : Nat) (all : List UInt8) (k : UInt8) (A : Option Addr) (n c : Nat) (l : List UInt8) (w : World) (h : DskO w base g all s lo hi) (hs : Sees w w.heap.size A n (cbs l)) (hz : base ≤ w.heap.size) (hall : all.length ≤ 1048576) (hglo : g < lo) (hhi : hi ≤ w.heap.size) :
    Calls Try.prog 49 #[.pointer (some ⟨g, 0, none⟩), .agg #[.int .u8 (k.toNat : Int), .slice A n c]] w fun e w' => e = .returned (.int .i64 ((appF all (k, l)).2 : Int)) ∧ DskO w' base g (appF all (k, l)).1 s lo hi ∧ Below base w w' ∧ Win lo hi w w' := by
  have hcells := Blk.new w 29 #[.int .u8 (k.toNat : Int), .slice A n c]
  have c0 : (w.alloc (.cells #[.int .u8 (k.toNat : Int), .slice A n c] 29)).cell? ⟨w.heap.size, 0, none⟩ = some (.int .u8 (k.toNat : Int)) := by rw [hcells.cell]; rfl
  have c1 : (w.alloc (.cells #[.int .u8 (k.toNat : Int), .slice A n c] 29)).cell? ⟨w.heap.size, 1, none⟩ = some (.slice A n c) := by rw [hcells.cell]; rfl
  have hs1 := hs.past (.cells #[.int .u8 (k.toNat : Int), .slice A n c] 29)
  have hb1 := (Below.refl w.heap.size w).alloc (Nat.le_refl _) (.cells #[.int .u8 (k.toNat : Int), .slice A n c] 29)
  have HW := Lib.hid (wbytes_any k A n c l _ hs1)
  have HD := Lib.hid (h.on hb1)
  have hbl := bytesF_len (k, l)
  have HAP := Lib.hid (show appF all (k, l) = if (bytesF (k, l)).2 ≠ 0 then (all, (bytesF (k, l)).2) else writeF all (bytesF (k, l)).1 from rfl)
  have HGL := Lib.hid hglo
  have HHI := Lib.hid hhi
  clear hcells hs1 hs h hglo hhi
  go_enter Try.func49, Try.ntmps49
  go_wp2_with fail
  generalize w.alloc (.cells #[.int .u8 (k.toNat : Int), .slice A n c] 29) = w1 at *
  refine HW.out.mono ?_
  rintro e w2 ⟨A2, c2, rfl, hf2, hb2⟩
  have hb3 := bthen hb1 hb2
  have hd2 := HD.out.on hb2
  generalize bytesF (k, l) = B at *
  obtain ⟨bs, be⟩ := B
  simp only at hf2 hbl HAP
  by_cases hE : be = 0
  · subst hE
    have hap := HAP.out
    rw [if_neg (by simp)] at hap
    have HA := Lib.hid hap
    have hz3 : base ≤ w2.heap.size := Nat.le_trans hz hb3.size
    have HWR := Lib.hid (dWrite3_any base g s lo hi all A2 bs.length c2 bs w2 hd2 hf2.sees (by omega) hz3 hall HGL.out (Nat.le_trans HHI.out hb3.size))
    clear hap HAP HW HD c0 c1 hf2 hd2
    generalize bs.length = bn at *
    go_wp2_with (go_at_call 72; refine HWR.out.mono ?_; rintro e w4 ⟨rfl, hd4, hb4, hk4⟩)
    go_ret
    rw [HA.out]
    exact ⟨rfl, hd4, (hb3.mono hz).trans hb4, (Win.below hb3 HHI.out).trans hk4⟩
  · have hE' : ¬ (be : Int) = 0 := by omega
    have hap := HAP.out
    rw [if_pos hE] at hap
    have HA := Lib.hid hap
    have hE2 : ((be : Int) == 0) = false := by rw [beq_eq_false_iff_ne]; exact hE'
    have HD2 := Lib.hid hd2
    clear hap HAP HW HD c0 c1 hf2 hd2
    go_wp2_with fail
    go_ret
    rw [HA.out]
    exact ⟨rfl, HD2.out, hb3.mono hz, Win.below hb3 HHI.out⟩
end Go.Proofs.Ytmhgbpgbnfdokaa
