/- The walks of package disk: what is cut, spoilt, and lost. -/
import Derived.Test.YtmhgbpgbnfdokaaD1
namespace Go.Proofs.Ytmhgbpgbnfdokaa
open Go.RowKit

/-- the byte at a place is turned -/
def turn (l : List UInt8) (i : Nat) (y : UInt8) : List UInt8 := l.set i (l.getD i 0 ^^^ y)
theorem turn_length (l : List UInt8) (i : Nat) (y : UInt8) : (turn l i y).length = l.length := by simp [turn]
theorem xor_byte (x y : UInt8) : bits BinOp.xor IntKind.u8 (x.toNat : Int) (y.toNat : Int) = ((x ^^^ y).toNat : Int) := by
  rw [u8_xor_nat _ _ (UInt8.toNat_lt x) (UInt8.toNat_lt y), UInt8.toNat_xor]

def cutF (all : List UInt8) (s : Nat) (n : Int) : List UInt8 × Nat × Nat := if n < 0 ∨ (all.length : Int) < n then (all, s, 5) else (all.take n.toNat, n.toNat, 0)
def spoilF (all : List UInt8) (s : Nat) (at_ : Int) (y : UInt8) : List UInt8 × Nat := if at_ < 0 ∨ (s : Int) ≤ at_ then (all, 5) else (turn all at_.toNat y, 0)

set_option maxRecDepth 100000 in
set_option maxHeartbeats 800000 in
/-- (*disk.Disk).Cut -/
theorem dCut_any (base g s : Nat) (all : List UInt8) (n : Int) (w : World) (h : Dsk w base g all s) :
    Calls Try.prog 76 #[.pointer (some ⟨g, 0, none⟩), .int .i64 n] w fun e w' => e = .returned (.int .i64 ((cutF all s n).2.2 : Int)) ∧ Dsk w' base g (cutF all s n).1 (cutF all s n).2.1 ∧ Below base w w' := by
  have HD := Lib.hid h
  obtain ⟨A, c, hb, hg, hf, hs⟩ := h
  have c0 : w.cell? ⟨g, 0, none⟩ = some (.slice A all.length c) := by rw [hb.cell]; rfl
  have c1 : w.cell? ⟨g, 1, none⟩ = some (.int .i64 (s : Int)) := by rw [hb.cell]; rfl
  have f0 := hb.frozen 0
  have f1 := hb.frozen 1
  unfold cutF
  by_cases hneg : n < 0
  · rw [if_pos (Or.inl hneg)]
    clear hb hf hs
    go_enter Try.func76, Try.ntmps76
    go_wp2_with fail
    go_ret
    exact ⟨rfl, HD.out, Below.refl _ _⟩
  · by_cases hbig : (all.length : Int) < n
    · rw [if_pos (Or.inr hbig)]
      clear hb hf hs
      go_enter Try.func76, Try.ntmps76
      go_wp2_with fail
      go_ret
      exact ⟨rfl, HD.out, Below.refl _ _⟩
    · rw [if_neg (fun h => h.elim hneg hbig)]
      obtain ⟨k, rfl⟩ : ∃ k : Nat, n = k := ⟨n.toNat, by omega⟩
      have hk : k ≤ all.length := by omega
      have hkc : k ≤ c := Nat.le_trans hk hf.2.1
      have hsl := fun W => slice_upto A all.length c (k : Int) k rfl hkc W
      have hb1 := hb.set_ 0 (.slice A k c)
      have HB := Lib.hid (hb1.set_ 1 (.int .i64 (k : Int)))
      have HF := Lib.hid (free_store (k := 1) hb1 (free_store (k := 0) hb hf (.slice A k c)) (.int .i64 (k : Int)))
      have HG := Lib.hid hg
      have HK := Lib.hid hk
      clear hb hf hs HD hb1 hg hk
      go_enter Try.func76, Try.ntmps76
      go_wp2_with fail
      go_ret
      have hl : (all.take k).length = k := by rw [List.length_take]; have := HK.out; omega
      have hf3 := HF.out.take HK.out
      have e1 : (cbs all).take k = cbs (all.take k) := by simp [cbs, List.map_take]
      rw [e1] at hf3
      exact ⟨rfl, ⟨A, c, by rw [hl]; exact HB.out, HG.out, by rw [hl]; exact hf3, by rw [hl]; exact Nat.le_refl _⟩, ((Below.refl base w).setCell (by simpa using HG.out) _).setCell (by simpa using HG.out) _⟩

/-- what a crash leaves -/
def crashF (all : List UInt8) (s : Nat) (keep at_ : Int) (y : UInt8) : List UInt8 :=
  if 0 ≤ at_ ∧ at_ < min (max keep 0) ((all.length : Int) - s) then turn (all.take (s + (min (max keep 0) ((all.length : Int) - s)).toNat)) (s + at_.toNat) y
  else all.take (s + (min (max keep 0) ((all.length : Int) - s)).toNat)

set_option maxRecDepth 100000 in
set_option maxHeartbeats 1600000 in
/-- (*disk.Disk).Crash -/
theorem dCrash_any (base g s : Nat) (all : List UInt8) (keep at_ : Int) (y : UInt8) (w : World) (h : Dsk w base g all s) (hall : all.length ≤ 1048576) :
    Calls Try.prog 24 #[.pointer (some ⟨g, 0, none⟩), .int .i64 keep, .int .i64 at_, .int .u8 (y.toNat : Int)] w fun e w' => e = .returned (.int .i64 0) ∧ Dsk w' base g (crashF all s keep at_ y) s ∧ Below base w w' := by
  obtain ⟨A, c, hb, hg, hf, hs⟩ := h
  have c0 : w.cell? ⟨g, 0, none⟩ = some (.slice A all.length c) := by rw [hb.cell]; rfl
  have c1 : w.cell? ⟨g, 1, none⟩ = some (.int .i64 (s : Int)) := by rw [hb.cell]; rfl
  have f0 := hb.frozen 0
  have f1 := hb.frozen 1
  have hw1 : IntKind.i64.wrap ((all.length : Int) - (s : Int)) = (all.length : Int) - (s : Int) := by rw [IntKind.wrap_i64]; omega
  unfold crashF
  obtain ⟨k, hk⟩ : ∃ k : Nat, min (max keep 0) ((all.length : Int) - s) = k := ⟨(min (max keep 0) ((all.length : Int) - s)).toNat, by omega⟩
  have hks : s + k ≤ all.length := by omega
  rw [hk]
  simp only [Int.toNat_natCast]
  have hif : (if (all.length : Int) - (s : Int) < (if keep < 0 then 0 else keep) then (all.length : Int) - (s : Int) else if keep < 0 then 0 else keep) = (k : Int) := by
    rw [← hk]
    split <;> split <;> omega
  have hw2 : IntKind.i64.wrap ((s : Int) + (k : Int)) = (s : Int) + (k : Int) := by rw [IntKind.wrap_i64]; omega
  have hkc : s + k ≤ c := Nat.le_trans hks hf.2.1
  have hsl := fun W => slice_upto A all.length c ((s : Int) + (k : Int)) (s + k) rfl hkc W
  have hcm : all.length ≤ c := hf.2.1
  have hft := hf.take hks
  have e1 : (cbs all).take (s + k) = cbs (all.take (s + k)) := by simp [cbs, List.map_take]
  rw [e1] at hft
  have hl : (all.take (s + k)).length = s + k := by rw [List.length_take]; omega
  have HL := Lib.hid hl
  have HB := Lib.hid hb
  have HF := Lib.hid hft
  have HS := Lib.hid hs
  generalize all.take (s + k) = t at *
  clear hb hf hft e1 hl hs hk
  generalize hR : (if 0 ≤ at_ ∧ at_ < (k : Int) then turn t (s + at_.toNat) y else t) = R
  have HR := Lib.hid hR
  clear hR
  go_enter Try.func24, Try.ntmps24
  go_wp2_with fail
  go_cut [1] (fun t wx => t = .int .i64 (k : Int) ∧ wx = w.drew)
  case first =>
    go_region
    all_goals go_wp2_with fail
    all_goals
      go_meet
      exact ⟨rfl, rfl⟩
  case rest =>
    obtain ⟨rfl, rfl⟩ := hcut
    have hblk : Blk ((w.setCell ⟨g, 0, none⟩ (.slice A (s + k) c)).drew.drew) g 101 #[.slice A (s + k) c, .int .i64 (s : Int)] := HB.out.set_ 0 (.slice A (s + k) c)
    have hfr : Free ((w.setCell ⟨g, 0, none⟩ (.slice A (s + k) c)).drew.drew) base 5 A (s + k) c (cbs t) := free_store (k := 0) HB.out HF.out _
    have hbl : Below base w ((w.setCell ⟨g, 0, none⟩ (.slice A (s + k) c)).drew.drew) := ((Below.refl base w).setCell (p := ⟨g, 0, none⟩) hg _).drew.drew
    have HBK := Lib.hid hblk
    have HFR := Lib.hid hfr
    have HBL := Lib.hid hbl
    clear hblk hfr hbl
    go_wp2_with fail
    go_region
    have hblk := HBK.out
    have hfr := HFR.out
    have hbl := HBL.out
    clear HBK HFR HBL HB HF c0 c1 f0 f1 hsl hif hw1 hkc
    generalize (w.setCell ⟨g, 0, none⟩ (.slice A (s + k) c)).drew.drew = w2 at *
    by_cases ha : 0 ≤ at_ ∧ at_ < (k : Int)
    · have hR := HR.out
      rw [if_pos ha] at hR
      obtain ⟨ha0, ha1⟩ := ha
      obtain ⟨j, rfl⟩ : ∃ j : Nat, at_ = j := ⟨at_.toNat, by omega⟩
      have hj : s + j < s + k := by omega
      simp only [Int.toNat_natCast] at hR
      have HRR := Lib.hid hR
      clear hR HR
      obtain ⟨q, off, u, rfl, hq0, hql, hu, cq, fq⟩ := hfr.at_ hj
      obtain ⟨x, hx⟩ : ∃ x, t[s + j]? = some x := ⟨_, List.getElem?_eq_getElem (by rw [HL.out]; exact hj)⟩
      have hu' : cb x = u := by rw [cbs_get, hx] at hu; simpa using hu
      subst hu'
      unfold cb at cq
      have hxy := xor_byte x y
      have hgd : t.getD (s + j) 0 = x := by rw [List.getD_eq_getElem?_getD, hx]; rfl
      have hqg : g ≠ q := fun e => free_apart hblk hfr (by have := hfr.2.1; omega) _ rfl e.symm
      have hset : (cbs t).set (s + j) (cb (x ^^^ y)) = cbs (turn t (s + j) y) := by unfold turn; rw [hgd]; simp [cbs, List.map_set]
      have hf2 := hfr.put (k := s + j) (cb (x ^^^ y)) hj
      rw [hset] at hf2
      obtain ⟨z, hz⟩ : ∃ z, z = x ^^^ y := ⟨_, rfl⟩
      rw [← hz] at hxy hf2
      have HB2 := Lib.hid (hblk.far (p := ⟨q, off + (s + j), none⟩) hqg (cb z))
      have HF2 := Lib.hid hf2
      have HBL2 := Lib.hid (hbl.setCell (p := ⟨q, off + (s + j), none⟩) hq0 (cb z))
      have c0 : w2.cell? ⟨g, 0, none⟩ = some (.slice (some ⟨q, off, none⟩) (s + k) c) := by rw [hblk.cell]; rfl
      have c1 : w2.cell? ⟨g, 1, none⟩ = some (.int .i64 (s : Int)) := by rw [hblk.cell]; rfl
      have hw3 : IntKind.i64.wrap ((s : Int) + (j : Int)) = (s : Int) + (j : Int) := by rw [IntKind.wrap_i64]; omega
      have hb1 : (0 : Int) ≤ (s : Int) + (j : Int) := by omega
      have hb2 : (s : Int) + (j : Int) < ((s + k : Nat) : Int) := by omega
      have hb3 : ((s : Int) + (j : Int)).toNat = s + j := by omega
      clear hblk hfr hbl hf2 hset hgd hx hu hqg hz hq0 hql
      go_wp2_with fail
      go_region
      all_goals
        go_wp2_with fail
        go_ret
        rw [← HRR.out]
        have hl := (turn_length t (s + j) y).trans HL.out
        exact ⟨rfl, ⟨_, c, by rw [hl]; exact HB2.out.drew, hg, by rw [hl]; exact HF2.out.drew, by rw [hl]; omega⟩, HBL2.out.drew⟩
    · have hR := HR.out
      rw [if_neg ha] at hR
      have HRR := Lib.hid hR
      clear hR HR
      by_cases h0 : 0 ≤ at_
      · have h1 : ¬ at_ < (k : Int) := fun h => ha ⟨h0, h⟩
        go_wp2_with fail
        go_ret
        rw [← HRR.out]
        have hl := HL.out
        exact ⟨rfl, ⟨A, c, by rw [hl]; exact hblk, hg, by rw [hl]; exact hfr, by rw [hl]; omega⟩, hbl⟩
      · go_wp2_with fail
        go_ret
        rw [← HRR.out]
        have hl := HL.out
        exact ⟨rfl, ⟨A, c, by rw [hl]; exact hblk, hg, by rw [hl]; exact hfr, by rw [hl]; omega⟩, hbl⟩
end Go.Proofs.Ytmhgbpgbnfdokaa
