/- The walks of package disk once more: what they leave as it was: rows of other types than a disk's; behind Cut all but the disk itself. -/
import Derived.Test.YtmhgbpgbnfdokaaD2
namespace Go.Proofs.Ytmhgbpgbnfdokaa
open Go.RowKit

/-- rows of other types than a disk's are as they were -/
def Keeps (w w' : World) : Prop := ∀ (k : Nat) (cs : Array Value) (t : TypeId) (fr : Nat × Nat), w.heap[k]? = some (Obj.cells cs t fr) → t ≠ 5 → t ≠ 101 → w'.heap[k]? = w.heap[k]?
theorem Keeps.refl (w : World) : Keeps w w := fun _ _ _ _ _ _ _ => rfl
theorem Keeps.trans {a b c : World} (h : Keeps a b) (k : Keeps b c) : Keeps a c := fun i cs t fr hi h1 h2 => (k i cs t fr ((h i cs t fr hi h1 h2).trans hi) h1 h2).trans (h i cs t fr hi h1 h2)
theorem Keeps.below {w w' : World} (h : Below w.heap.size w w') : Keeps w w' := fun i _ _ _ hi _ _ => h.block i (Array.getElem?_eq_some_iff.1 hi).1
theorem Keeps.drew {a w : World} (h : Keeps a w) : Keeps a w.drew := h
theorem Keeps.set_ {a w : World} {g i : Nat} {cs : Array Value} (h : Keeps a w) (hb : Blk w g 101 cs) (u : Value) : Keeps a (w.setCell ⟨g, i, none⟩ u) := h.trans fun k cs' t fr hk h1 h2 =>
  Below.heap_setCell w ⟨g, i, none⟩ u k (fun e => by subst e; unfold Blk at hb; rw [hb] at hk; injection hk with hk; injection hk with _ ht; exact h2 ht.symm)
theorem Keeps.set8 {a w : World} {g i : Nat} {cs : Array Value} (h : Keeps a w) (hb : Blk w g 5 cs) (u : Value) : Keeps a (w.setCell ⟨g, i, none⟩ u) := h.trans fun k cs' t fr hk h1 h2 =>
  Below.heap_setCell w ⟨g, i, none⟩ u k (fun e => by subst e; unfold Blk at hb; rw [hb] at hk; injection hk with hk; injection hk with _ ht; exact h1 ht.symm)
theorem Keeps.appended {w w' : World} {base n c m c' : Nat} {A A' : Option Addr} {xs news : List Value} (h : Appended w base 5 A n c xs m news A' c' w') (h0 : Free w base 5 A n c xs) : Keeps w w' := by
  intro k cs t fr hk h1 h2
  have hlt := (Array.getElem?_eq_some_iff.1 hk).1
  rcases h.row h0 with hg | ⟨q, cur, _, hq, hg⟩
  · exact hg.block k hlt (by simp)
  · refine hg.block k hlt (fun e => ?_)
    injection e with e
    subst e
    unfold Blk at hq
    rw [hq] at hk
    injection hk with hk
    injection hk with _ ht
    exact h1 ht.symm
theorem Keeps.own {w w' : World} {base : Nat} {e : TypeId} {size n : Nat} {v : Value} {xs : List Value} (h : Keeps w w') (ho : w.ownsRow base e size v n xs) (h1 : e ≠ 5) (h2 : e ≠ 101) : w'.ownsRow base e size v n xs := by
  refine ⟨ho.1, ?_⟩
  rcases ho.2 with hn | ⟨g, cap, cur, rfl, hb, hg, rest⟩
  · exact .inl hn
  · exact .inr ⟨g, cap, cur, rfl, hb, (h g _ _ _ hg h1 h2).trans hg, rest⟩
theorem Keeps.blk {w w' : World} {g : Nat} {e : TypeId} {cs : Array Value} (h : Keeps w w') (hb : Blk w g e cs) (h1 : e ≠ 5) (h2 : e ≠ 101) : Blk w' g e cs := (h g _ _ _ hb h1 h2).trans hb

set_option maxRecDepth 100000 in
set_option maxHeartbeats 400000 in
/-- (*disk.Disk).Sync -/
theorem dSync2_any (base g s : Nat) (all : List UInt8) (w : World) (h : Dsk w base g all s) :
    Calls Try.prog 21 #[.pointer (some ⟨g, 0, none⟩)] w fun e w' => e = .returned (.int .i64 0) ∧ Dsk w' base g all all.length ∧ Below base w w' ∧ Keeps w w' := by
  obtain ⟨A, c, hb, hg, hf, hs⟩ := h
  have c0 : w.cell? ⟨g, 0, none⟩ = some (.slice A all.length c) := by rw [hb.cell]; rfl
  have f1 := hb.frozen 1
  have c1 : w.cell? ⟨g, 1, none⟩ = some (.int .i64 (s : Int)) := by rw [hb.cell]; rfl
  have HB := Lib.hid (hb.set_ 1 (.int .i64 (all.length : Int)))
  have HF := Lib.hid (free_store (k := 1) hb hf (.int .i64 (all.length : Int)))
  have HK := Lib.hid ((Keeps.refl w).set_ (i := 1) hb (.int .i64 (all.length : Int)))
  clear hb hf hs
  go_enter Try.func21, Try.ntmps21
  go_wp2_with fail
  go_ret
  exact ⟨rfl, ⟨A, c, HB.out, hg, HF.out, Nat.le_refl _⟩, (Below.refl base w).setCell (by simpa using hg) _, HK.out⟩

set_option maxRecDepth 100000 in
set_option maxHeartbeats 800000 in
/-- (*disk.Disk).Write -/
theorem dWrite2_any (base g s : Nat) (all : List UInt8) (A2 : Option Addr) (m c2 : Nat) (l : List UInt8) (w : World) (h : Dsk w base g all s) (hs2 : Sees w w.heap.size A2 m (cbs l)) (hm : m ≤ 140737488351232) (hz : base ≤ w.heap.size) (hall : all.length ≤ 1048576) :
    Calls Try.prog 72 #[.pointer (some ⟨g, 0, none⟩), .slice A2 m c2] w fun e w' => e = .returned (.int .i64 ((writeF all l).2 : Int)) ∧ Dsk w' base g (writeF all l).1 s ∧ Below base w w' ∧ Keeps w w' := by
  have HD := Lib.hid h
  obtain ⟨A, c, hb, hg, hf, hs⟩ := h
  have hlen : l.length = m := by have := hs2.1; simpa using this
  have c0 : w.cell? ⟨g, 0, none⟩ = some (.slice A all.length c) := by rw [hb.cell]; rfl
  have hW : writeF all l = if 1048576 < all.length + m then (all, 7) else (all ++ l, 0) := by unfold writeF; rw [hlen]
  rw [hW]
  clear hW
  by_cases hbig : 1048576 < all.length + m
  · rw [if_pos hbig]
    have hb1 : (1048576 : Int) - (all.length : Int) < (m : Int) := by omega
    clear hb hf hs
    go_enter Try.func72, Try.ntmps72
    go_wp2_with fail
    go_ret
    exact ⟨rfl, HD.out, Below.refl _ _, Keeps.refl _⟩
  · rw [if_neg hbig]
    have hb1 : ¬ (1048576 : Int) - (all.length : Int) < (m : Int) := by omega
    obtain ⟨i0, hi0, hy0, hy1, hy2⟩ := info_parts u8_row
    have hm1 : all.length + m ≤ maxLen := Nat.le_trans (show all.length + m ≤ 140737488355328 by omega) (by decide)
    have hm2 : (all.length + m) * 1 ≤ 140737488355328 := by omega
    have HB := Lib.hid hb
    have HLEN := Lib.hid hlen
    have HG := Lib.hid hg
    have HS := Lib.hid hs
    clear hb hlen hbig HD hg hs
    go_enter Try.func72, Try.ntmps72
    go_wp2_with (at_builtin; refine wpList_append_free _ rfl (.tmp 20) (.tmp 21) _ rfl base 5 i0 _ 1 sl_u8 hi0 hy0 hy1 hy2 rfl A all.length c (cbs all) rfl hf (cbs_one _) _ A2 m c2 (cbs l) rfl hs2 (cbs_one _) hm1 hm2 hz ?_
                 intro A3 c3 w3 ha
                 have hf3 := ha.1
                 have hb3 := ha.below hf (Below.refl base w) hz (Nat.le_refl _)
                 have hblk3 : Blk w3 g 101 #[.slice A all.length c, .int .i64 (s : Int)] := (by
                   rcases ha.row hf with hgr | ⟨q, cur, _, hq, hgr⟩
                   · exact HB.out.grown hgr (by simp)
                   · refine HB.out.grown hgr (fun e => ?_)
                     injection e with e
                     subst e
                     have h1 := HB.out
                     unfold Blk at h1 hq
                     rw [h1] at hq
                     injection hq with hq
                     injection hq with _ ht
                     exact absurd ht (by decide))
                 have d0 : w3.cell? ⟨g, 0, none⟩ = some (.slice A all.length c) := (by rw [hblk3.cell]; rfl)
                 have f0 := hblk3.frozen 0
                 have HK3 := Lib.hid ((Keeps.appended ha hf).set_ (i := 0) hblk3 (.slice A3 (all.length + m) c3))
                 rw [← cbs_append] at hf3
                 have HB3 := Lib.hid (hblk3.set_ 0 (.slice A3 (all.length + m) c3))
                 have HF3 := Lib.hid (free_store (k := 0) hblk3 hf3 (.slice A3 (all.length + m) c3))
                 clear ha hf hs2 hblk3 hf3 c0)
    go_ret
    have e1 : (all ++ l).length = all.length + m := by rw [List.length_append, HLEN.out]
    exact ⟨rfl, ⟨A3, c3, by rw [e1]; exact HB3.out, HG.out, by rw [e1]; exact HF3.out, by rw [e1]; have := HS.out; omega⟩, hb3.setCell (by simpa using HG.out) _, HK3.out⟩

set_option maxRecDepth 100000 in
set_option maxHeartbeats 800000 in
/-- (*disk.Disk).Cut -/
theorem dCut2_any (base g s : Nat) (all : List UInt8) (n : Int) (w : World) (h : Dsk w base g all s) :
    Calls Try.prog 76 #[.pointer (some ⟨g, 0, none⟩), .int .i64 n] w fun e w' => e = .returned (.int .i64 ((cutF all s n).2.2 : Int)) ∧ Dsk w' base g (cutF all s n).1 (cutF all s n).2.1 ∧ Below base w w' ∧ w.grownBy w' (some g) := by
  have HD := Lib.hid h
  obtain ⟨A, c, hb, hg, hf, hs⟩ := h
  have c0 : w.cell? ⟨g, 0, none⟩ = some (.slice A all.length c) := by rw [hb.cell]; rfl
  have c1 : w.cell? ⟨g, 1, none⟩ = some (.int .i64 (s : Int)) := by rw [hb.cell]; rfl
  have f0 := hb.frozen 0
  have f1 := hb.frozen 1
  unfold cutF
  by_cases hneg : n < 0
  · rw [if_pos (Or.inl hneg)]
    clear hb hf hs
    go_enter Try.func76, Try.ntmps76
    go_wp2_with fail
    go_ret
    exact ⟨rfl, HD.out, Below.refl _ _, gb_refl _ _⟩
  · by_cases hbig : (all.length : Int) < n
    · rw [if_pos (Or.inr hbig)]
      clear hb hf hs
      go_enter Try.func76, Try.ntmps76
      go_wp2_with fail
      go_ret
      exact ⟨rfl, HD.out, Below.refl _ _, gb_refl _ _⟩
    · rw [if_neg (fun h => h.elim hneg hbig)]
      obtain ⟨k, rfl⟩ : ∃ k : Nat, n = k := ⟨n.toNat, by omega⟩
      have hk : k ≤ all.length := by omega
      have hkc : k ≤ c := Nat.le_trans hk hf.2.1
      have hsl := fun W => slice_upto A all.length c (k : Int) k rfl hkc W
      have hb1 := hb.set_ 0 (.slice A k c)
      have HB := Lib.hid (hb1.set_ 1 (.int .i64 (k : Int)))
      have HF := Lib.hid (free_store (k := 1) hb1 (free_store (k := 0) hb hf (.slice A k c)) (.int .i64 (k : Int)))
      have HG := Lib.hid hg
      have HK := Lib.hid hk
      clear hb hf hs HD hb1 hg hk
      go_enter Try.func76, Try.ntmps76
      go_wp2_with fail
      go_ret
      have hl : (all.take k).length = k := by rw [List.length_take]; have := HK.out; omega
      have hf3 := HF.out.take HK.out
      have e1 : (cbs all).take k = cbs (all.take k) := by simp [cbs, List.map_take]
      rw [e1] at hf3
      exact ⟨rfl, ⟨A, c, by rw [hl]; exact HB.out, HG.out, by rw [hl]; exact hf3, by rw [hl]; exact Nat.le_refl _⟩, ((Below.refl base w).setCell (by simpa using HG.out) _).setCell (by simpa using HG.out) _, gb_set (gb_set (gb_refl _ _) _ _) _ _⟩


set_option maxRecDepth 100000 in
set_option maxHeartbeats 1600000 in
/-- (*disk.Disk).Crash -/
theorem dCrash2_any (base g s : Nat) (all : List UInt8) (keep at_ : Int) (y : UInt8) (w : World) (h : Dsk w base g all s) (hall : all.length ≤ 1048576) :
    Calls Try.prog 24 #[.pointer (some ⟨g, 0, none⟩), .int .i64 keep, .int .i64 at_, .int .u8 (y.toNat : Int)] w fun e w' => e = .returned (.int .i64 0) ∧ Dsk w' base g (crashF all s keep at_ y) s ∧ Below base w w' ∧ Keeps w w' := by
  obtain ⟨A, c, hb, hg, hf, hs⟩ := h
  have c0 : w.cell? ⟨g, 0, none⟩ = some (.slice A all.length c) := by rw [hb.cell]; rfl
  have c1 : w.cell? ⟨g, 1, none⟩ = some (.int .i64 (s : Int)) := by rw [hb.cell]; rfl
  have f0 := hb.frozen 0
  have f1 := hb.frozen 1
  have hw1 : IntKind.i64.wrap ((all.length : Int) - (s : Int)) = (all.length : Int) - (s : Int) := by rw [IntKind.wrap_i64]; omega
  unfold crashF
  obtain ⟨k, hk⟩ : ∃ k : Nat, min (max keep 0) ((all.length : Int) - s) = k := ⟨(min (max keep 0) ((all.length : Int) - s)).toNat, by omega⟩
  have hks : s + k ≤ all.length := by omega
  rw [hk]
  simp only [Int.toNat_natCast]
  have hif : (if (all.length : Int) - (s : Int) < (if keep < 0 then 0 else keep) then (all.length : Int) - (s : Int) else if keep < 0 then 0 else keep) = (k : Int) := by
    rw [← hk]
    split <;> split <;> omega
  have hw2 : IntKind.i64.wrap ((s : Int) + (k : Int)) = (s : Int) + (k : Int) := by rw [IntKind.wrap_i64]; omega
  have hkc : s + k ≤ c := Nat.le_trans hks hf.2.1
  have hsl := fun W => slice_upto A all.length c ((s : Int) + (k : Int)) (s + k) rfl hkc W
  have hcm : all.length ≤ c := hf.2.1
  have hft := hf.take hks
  have e1 : (cbs all).take (s + k) = cbs (all.take (s + k)) := by simp [cbs, List.map_take]
  rw [e1] at hft
  have hl : (all.take (s + k)).length = s + k := by rw [List.length_take]; omega
  have HL := Lib.hid hl
  have HB := Lib.hid hb
  have HF := Lib.hid hft
  have HS := Lib.hid hs
  generalize all.take (s + k) = t at *
  clear hb hf hft e1 hl hs hk
  generalize hR : (if 0 ≤ at_ ∧ at_ < (k : Int) then turn t (s + at_.toNat) y else t) = R
  have HR := Lib.hid hR
  clear hR
  go_enter Try.func24, Try.ntmps24
  go_wp2_with fail
  go_cut [1] (fun t wx => t = .int .i64 (k : Int) ∧ wx = w.drew)
  case first =>
    go_region
    all_goals go_wp2_with fail
    all_goals
      go_meet
      exact ⟨rfl, rfl⟩
  case rest =>
    obtain ⟨rfl, rfl⟩ := hcut
    have hblk : Blk ((w.setCell ⟨g, 0, none⟩ (.slice A (s + k) c)).drew.drew) g 101 #[.slice A (s + k) c, .int .i64 (s : Int)] := HB.out.set_ 0 (.slice A (s + k) c)
    have hfr : Free ((w.setCell ⟨g, 0, none⟩ (.slice A (s + k) c)).drew.drew) base 5 A (s + k) c (cbs t) := free_store (k := 0) HB.out HF.out _
    have hbl : Below base w ((w.setCell ⟨g, 0, none⟩ (.slice A (s + k) c)).drew.drew) := ((Below.refl base w).setCell (p := ⟨g, 0, none⟩) hg _).drew.drew
    have HBK := Lib.hid hblk
    have HFR := Lib.hid hfr
    have HBL := Lib.hid hbl
    have HKP := Lib.hid (show Keeps w ((w.setCell ⟨g, 0, none⟩ (.slice A (s + k) c)).drew.drew) from (Keeps.refl w).set_ (i := 0) HB.out (.slice A (s + k) c))
    clear hblk hfr hbl
    go_wp2_with fail
    go_region
    have hblk := HBK.out
    have hfr := HFR.out
    have hbl := HBL.out
    have hkp := HKP.out
    clear HBK HFR HBL HKP HB HF c0 c1 f0 f1 hsl hif hw1 hkc
    generalize (w.setCell ⟨g, 0, none⟩ (.slice A (s + k) c)).drew.drew = w2 at *
    by_cases ha : 0 ≤ at_ ∧ at_ < (k : Int)
    · have hR := HR.out
      rw [if_pos ha] at hR
      obtain ⟨ha0, ha1⟩ := ha
      obtain ⟨j, rfl⟩ : ∃ j : Nat, at_ = j := ⟨at_.toNat, by omega⟩
      have hj : s + j < s + k := by omega
      simp only [Int.toNat_natCast] at hR
      have HRR := Lib.hid hR
      clear hR HR
      obtain ⟨q, off, u, rfl, hq0, hql, hu, cq, fq⟩ := hfr.at_ hj
      obtain ⟨x, hx⟩ : ∃ x, t[s + j]? = some x := ⟨_, List.getElem?_eq_getElem (by rw [HL.out]; exact hj)⟩
      have hu' : cb x = u := by rw [cbs_get, hx] at hu; simpa using hu
      subst hu'
      unfold cb at cq
      have hxy := xor_byte x y
      have hgd : t.getD (s + j) 0 = x := by rw [List.getD_eq_getElem?_getD, hx]; rfl
      have hqg : g ≠ q := fun e => free_apart hblk hfr (by have := hfr.2.1; omega) _ rfl e.symm
      have hset : (cbs t).set (s + j) (cb (x ^^^ y)) = cbs (turn t (s + j) y) := by unfold turn; rw [hgd]; simp [cbs, List.map_set]
      have hf2 := hfr.put (k := s + j) (cb (x ^^^ y)) hj
      rw [hset] at hf2
      obtain ⟨z, hz⟩ : ∃ z, z = x ^^^ y := ⟨_, rfl⟩
      rw [← hz] at hxy hf2
      have HB2 := Lib.hid (hblk.far (p := ⟨q, off + (s + j), none⟩) hqg (cb z))
      have HF2 := Lib.hid hf2
      obtain ⟨cur8, hq8⟩ : ∃ cur, Blk w2 q 5 cur := by
        obtain ⟨g', off', cur, hA', _, hB', _⟩ := hfr.2.2.2 (by have := hfr.2.1; omega)
        injection hA' with hA'
        injection hA' with e1 _
        subst e1
        exact ⟨cur, hB'⟩
      have HKP2 := Lib.hid (hkp.set8 (i := off + (s + j)) hq8 (cb z))
      have HBL2 := Lib.hid (hbl.setCell (p := ⟨q, off + (s + j), none⟩) hq0 (cb z))
      have c0 : w2.cell? ⟨g, 0, none⟩ = some (.slice (some ⟨q, off, none⟩) (s + k) c) := by rw [hblk.cell]; rfl
      have c1 : w2.cell? ⟨g, 1, none⟩ = some (.int .i64 (s : Int)) := by rw [hblk.cell]; rfl
      have hw3 : IntKind.i64.wrap ((s : Int) + (j : Int)) = (s : Int) + (j : Int) := by rw [IntKind.wrap_i64]; omega
      have hb1 : (0 : Int) ≤ (s : Int) + (j : Int) := by omega
      have hb2 : (s : Int) + (j : Int) < ((s + k : Nat) : Int) := by omega
      have hb3 : ((s : Int) + (j : Int)).toNat = s + j := by omega
      clear hblk hfr hbl hkp hq8 hf2 hset hgd hx hu hqg hz hq0 hql
      go_wp2_with fail
      go_region
      all_goals
        go_wp2_with fail
        go_ret
        rw [← HRR.out]
        have hl := (turn_length t (s + j) y).trans HL.out
        exact ⟨rfl, ⟨_, c, by rw [hl]; exact HB2.out.drew, hg, by rw [hl]; exact HF2.out.drew, by rw [hl]; omega⟩, HBL2.out.drew, HKP2.out.drew⟩
    · have hR := HR.out
      rw [if_neg ha] at hR
      have HRR := Lib.hid hR
      clear hR HR
      by_cases h0 : 0 ≤ at_
      · have h1 : ¬ at_ < (k : Int) := fun h => ha ⟨h0, h⟩
        go_wp2_with fail
        go_ret
        rw [← HRR.out]
        have hl := HL.out
        exact ⟨rfl, ⟨A, c, by rw [hl]; exact hblk, hg, by rw [hl]; exact hfr, by rw [hl]; omega⟩, hbl, hkp⟩
      · go_wp2_with fail
        go_ret
        rw [← HRR.out]
        have hl := HL.out
        exact ⟨rfl, ⟨A, c, by rw [hl]; exact hblk, hg, by rw [hl]; exact hfr, by rw [hl]; omega⟩, hbl, hkp⟩
end Go.Proofs.Ytmhgbpgbnfdokaa
