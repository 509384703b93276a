/- The walks of wal.Append and wal.Recover. -/
import Derived.Test.YtmhgbpgbnfdokaaRec4
import Derived.Test.YtmhgbpgbnfdokaaD3
namespace Go.Proofs.Ytmhgbpgbnfdokaa
open Go.RowKit

/-- what Append leaves on a disk, and answers -/
def appF (all : List UInt8) (r : RecM) : List UInt8 × Nat := if (bytesF r).2 ≠ 0 then (all, (bytesF r).2) else writeF all (bytesF r).1
theorem bytesF_len (r : RecM) : (bytesF r).1.length ≤ 4104 := by
  unfold bytesF
  split
  · simp
  · split
    · simp
    · show (recB r).length ≤ 4104
      rw [recB_length]
      omega

set_option maxRecDepth 100000 in
set_option maxHeartbeats 800000 in
/-- wal.Append -/
theorem wappend_any (base g s : Nat) (all : List UInt8) (k : UInt8) (A : Option Addr) (n c : Nat) (l : List UInt8) (w : World) (h : Dsk w base g all s) (hs : Sees w w.heap.size A n (cbs l)) (hz : base ≤ w.heap.size) (hall : all.length ≤ 1048576) :
    Calls Try.prog 49 #[.pointer (some ⟨g, 0, none⟩), .agg #[.int .u8 (k.toNat : Int), .slice A n c]] w fun e w' => e = .returned (.int .i64 ((appF all (k, l)).2 : Int)) ∧ Dsk w' base g (appF all (k, l)).1 s ∧ Below base w w' ∧ Keeps w w' := by
  have hcells := Blk.new w 29 #[.int .u8 (k.toNat : Int), .slice A n c]
  have c0 : (w.alloc (.cells #[.int .u8 (k.toNat : Int), .slice A n c] 29)).cell? ⟨w.heap.size, 0, none⟩ = some (.int .u8 (k.toNat : Int)) := by rw [hcells.cell]; rfl
  have c1 : (w.alloc (.cells #[.int .u8 (k.toNat : Int), .slice A n c] 29)).cell? ⟨w.heap.size, 1, none⟩ = some (.slice A n c) := by rw [hcells.cell]; rfl
  have hs1 := hs.past (.cells #[.int .u8 (k.toNat : Int), .slice A n c] 29)
  have hb1 := (Below.refl w.heap.size w).alloc (Nat.le_refl _) (.cells #[.int .u8 (k.toNat : Int), .slice A n c] 29)
  have HW := Lib.hid (wbytes_any k A n c l _ hs1)
  have HD := Lib.hid (h.alloc (.cells #[.int .u8 (k.toNat : Int), .slice A n c] 29))
  have hbl := bytesF_len (k, l)
  have HAP := Lib.hid (show appF all (k, l) = if (bytesF (k, l)).2 ≠ 0 then (all, (bytesF (k, l)).2) else writeF all (bytesF (k, l)).1 from rfl)
  clear hcells hs1 hs h
  go_enter Try.func49, Try.ntmps49
  go_wp2_with fail
  generalize w.alloc (.cells #[.int .u8 (k.toNat : Int), .slice A n c] 29) = w1 at *
  refine HW.out.mono ?_
  rintro e w2 ⟨A2, c2, rfl, hf2, hb2⟩
  have hb3 := bthen hb1 hb2
  have hd2 := HD.out.on hb2
  generalize bytesF (k, l) = B at *
  obtain ⟨bs, be⟩ := B
  simp only at hf2 hbl HAP
  by_cases hE : be = 0
  · subst hE
    have hap := HAP.out
    rw [if_neg (by simp)] at hap
    have HA := Lib.hid hap
    have hz3 : base ≤ w2.heap.size := Nat.le_trans hz hb3.size
    have HWR := Lib.hid (dWrite2_any base g s all A2 bs.length c2 bs w2 hd2 hf2.sees (by omega) hz3 hall)
    clear hap HAP HW HD c0 c1 hf2 hd2
    generalize bs.length = bn at *
    go_wp2_with (go_at_call 72; refine HWR.out.mono ?_; rintro e w4 ⟨rfl, hd4, hb4, hk4⟩)
    go_ret
    rw [HA.out]
    exact ⟨rfl, hd4, (hb3.mono hz).trans hb4, (Keeps.below hb3).trans hk4⟩
  · have hE' : ¬ (be : Int) = 0 := by omega
    have hap := HAP.out
    rw [if_pos hE] at hap
    have HA := Lib.hid hap
    have hE2 : ((be : Int) == 0) = false := by rw [beq_eq_false_iff_ne]; exact hE'
    have HD2 := Lib.hid hd2
    clear hap HAP HW HD c0 c1 hf2 hd2
    go_wp2_with fail
    go_ret
    rw [HA.out]
    exact ⟨rfl, HD2.out, hb3.mono hz, Keeps.below hb3⟩
set_option maxRecDepth 100000 in
theorem wappend_nil (k : Int) (A : Option Addr) (n c : Nat) (w : World) :
    Calls Try.prog 49 #[.pointer none, .agg #[.int .u8 k, .slice A n c]] w fun e w' => e = .returned (.int .i64 1) ∧ w' = w.alloc (.cells #[.int .u8 k, .slice A n c] 29) := by
  go_enter Try.func49, Try.ntmps49
  go_wp2_with fail
  go_ret
  exact ⟨rfl, rfl⟩

set_option maxRecDepth 100000 in
set_option maxHeartbeats 800000 in
/-- wal.Recover, of what was spoilt -/
theorem wrecover_bad (base g s : Nat) (all : List UInt8) (w : World) (h : Dsk w base g all s) (hall : all.length ≤ 1048576) (hlt : (readB all).2.1 < s) :
    Calls Try.prog 50 #[.pointer (some ⟨g, 0, none⟩)] w fun e w' => e = .returned (.tuple #[.slice none 0 0, .int .i64 3]) ∧ Dsk w' base g all s ∧ Below w.heap.size w w' := by
  have HB := Lib.hid (dBytes_any base g s all w h (by omega))
  have HD := Lib.hid h
  have HR := Lib.hid (fun A c W (hs : Sees W W.heap.size A all.length (cbs all)) (hc : all.length ≤ c) (hm : c ≤ maxLen) => wread_any A all.length c all W hs hc hm (by omega))
  generalize readB all = R at *
  obtain ⟨rs, en, er⟩ := R
  simp only at hlt
  have hlt' : (en : Int) < (s : Int) := by omega
  clear h
  go_enter Try.func50, Try.ntmps50
  go_wp2_with fail
  refine HB.out.mono ?_
  rintro e w1 ⟨A1, c1, rfl, hf1, hb1⟩
  have hd1 := HD.out.on hb1
  go_wp2_with fail
  refine (HR.out A1 c1 w1 hf1.sees hf1.2.1 hf1.2.2.1).mono ?_
  rintro e w2 ⟨A2, c2, rs2, rfl, _, _, hb2⟩
  have hd2 := hd1.on hb2
  have hb3 := bthen hb1 hb2
  clear hf1 hd1 hb1 hb2
  go_wp2_with fail
  refine (dSynced_any base g s all w2 hd2).mono ?_
  rintro e w' ⟨rfl, rfl⟩
  go_wp2_with fail
  go_ret2
  exact ⟨rfl, hd2, hb3⟩

set_option maxRecDepth 100000 in
set_option maxHeartbeats 800000 in
/-- wal.Recover, of what wasn't -/
theorem wrecover_any (base g s : Nat) (all : List UInt8) (w : World) (h : Dsk w base g all s) (hz : base ≤ w.heap.size) (hall : all.length ≤ 1048576) (hlt : s ≤ (readB all).2.1) :
    Calls Try.prog 50 #[.pointer (some ⟨g, 0, none⟩)] w fun e w' => ∃ A c rs, e = .returned (.tuple #[.slice A rs.length c, .int .i64 0]) ∧ rs.map RecP.m = (readB all).1 ∧ RecsF w' w.heap.size A c rs ∧ Dsk w' base g (all.take (readB all).2.1) (readB all).2.1 ∧ Below base w w' ∧ w.grownBy w' (some g) := by
  have HB := Lib.hid (dBytes_any base g s all w h (by omega))
  have HD := Lib.hid h
  have hen := (readB_inv _ all (Nat.le_refl _)).1
  have HR := Lib.hid (fun A c W (hs : Sees W W.heap.size A all.length (cbs all)) (hc : all.length ≤ c) (hm : c ≤ maxLen) => wread_any A all.length c all W hs hc hm (by omega))
  generalize readB all = R at *
  obtain ⟨rs, en, er⟩ := R
  simp only at hlt hen ⊢
  have hlt' : ¬ (en : Int) < (s : Int) := by omega
  have hcf : cutF all s (en : Int) = (all.take en, en, 0) := by
    unfold cutF
    rw [if_neg (by omega)]
    simp
  have HC := Lib.hid hcf
  clear hcf
  have hgw := h.lt
  clear h
  go_enter Try.func50, Try.ntmps50
  go_wp2_with fail
  refine HB.out.mono ?_
  rintro e w1 ⟨A1, c1, rfl, hf1, hb1⟩
  have hd1 := HD.out.on hb1
  go_wp2_with fail
  refine (HR.out A1 c1 w1 hf1.sees hf1.2.1 hf1.2.2.1).mono ?_
  rintro e w2 ⟨A2, c2, rs2, rfl, hrs, hrf, hb2⟩
  have hd2 := hd1.on hb2
  have hb3 := bthen hb1 hb2
  have hrf2 := hrf.mono hb1.size
  simp only at hrs
  clear hf1 hd1 hb1 hb2 hrf
  go_wp2_with fail
  refine (dSynced_any base g s all w2 hd2).mono ?_
  rintro e w' ⟨rfl, rfl⟩
  have HCT := Lib.hid (dCut2_any base g s all (en : Int) w' hd2)
  go_wp2_with (go_at_call 76; refine HCT.out.mono ?_; rintro e w4 ⟨rfl, hd4, hb4, hg4⟩)
  rw [HC.out] at hd4 ⊢
  go_ret2
  exact ⟨A2, c2, rs2, rfl, hrs, hrf2.grown hg4 hgw, hd4, (hb3.mono hz).trans hb4, gb_trans (gb_below (gb_refl _ _) hb3) hg4⟩
set_option maxRecDepth 100000 in
theorem wrecover_nil (w : World) :
    Calls Try.prog 50 #[.pointer none] w fun e w' => e = .returned (.tuple #[.slice none 0 0, .int .i64 1]) ∧ w' = w := by
  go_enter Try.func50, Try.ntmps50
  go_wp2_with fail
  go_ret2
  exact ⟨rfl, rfl⟩
end Go.Proofs.Ytmhgbpgbnfdokaa
