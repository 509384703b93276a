/- Write and Recover once more: what they leave of rows of other types than the disk's; what Play answers, the program's and the document's, in one form; rows of saves in memory, and what the records of few saves come to. -/
import Derived.Test.YtmhgbpgbnfdokaaHd9
import Derived.Test.YtmhgbpgbnfdokaaWcM
import Derived.Test.YtmhgbpgbnfdokaaHdQ
import Derived.Test.YtmhgbpgbnfdokaaOpen6
import Derived.Test.YtmhgbpgbnfdokaaHdA
import Derived.Test.YtmhgbpgbnfdokaaHdP
namespace Go.Proofs.Ytmhgbpgbnfdokaa
open Go.RowKit

set_option maxRecDepth 100000 in
set_option maxHeartbeats 800000 in
/-- (*disk.Disk).Write, and a window -/
theorem dWrite4_any (base g s lo hi : Nat) (all : List UInt8) (A2 : Option Addr) (m c2 : Nat) (l : List UInt8) (w : World) (h : DskO w base g all s lo hi) (hs2 : Sees w w.heap.size A2 m (cbs l)) (hm : m ≤ 140737488351232) (hz : base ≤ w.heap.size) (hall : all.length ≤ 1048576) (hglo : g < lo) (hhi : hi ≤ w.heap.size) :
    Calls Try.prog 72 #[.pointer (some ⟨g, 0, none⟩), .slice A2 m c2] w fun e w' => e = .returned (.int .i64 ((writeF all l).2 : Int)) ∧ DskO w' base g (writeF all l).1 s lo hi ∧ Below base w w' ∧ Win lo hi w w' ∧ Keeps w w' := by
  have HD := Lib.hid h
  obtain ⟨A, c, hb, hg, hf, hs, ho⟩ := h
  have hlen : l.length = m := by have := hs2.1; simpa using this
  have c0 : w.cell? ⟨g, 0, none⟩ = some (.slice A all.length c) := by rw [hb.cell]; rfl
  have hW : writeF all l = if 1048576 < all.length + m then (all, 7) else (all ++ l, 0) := by unfold writeF; rw [hlen]
  rw [hW]
  clear hW
  by_cases hbig : 1048576 < all.length + m
  · rw [if_pos hbig]
    have hb1 : (1048576 : Int) - (all.length : Int) < (m : Int) := by omega
    clear hb hf hs ho
    go_enter Try.func72, Try.ntmps72
    go_wp2_with fail
    go_ret
    exact ⟨rfl, HD.out, Below.refl _ _, Win.refl _ _ _, Keeps.refl _⟩
  · rw [if_neg hbig]
    have hb1 : ¬ (1048576 : Int) - (all.length : Int) < (m : Int) := by omega
    obtain ⟨i0, hi0, hy0, hy1, hy2⟩ := info_parts u8_row
    have hm1 : all.length + m ≤ maxLen := Nat.le_trans (show all.length + m ≤ 140737488355328 by omega) (by decide)
    have hm2 : (all.length + m) * 1 ≤ 140737488355328 := by omega
    have HB := Lib.hid hb
    have HLEN := Lib.hid hlen
    have HG := Lib.hid hg
    have HS := Lib.hid hs
    have HO := Lib.hid ho
    have HGL := Lib.hid hglo
    have HHI := Lib.hid hhi
    clear hb hlen hbig HD hg hs ho hglo hhi
    go_enter Try.func72, Try.ntmps72
    go_wp2_with (at_builtin; refine wpList_append_free _ rfl (.tmp 20) (.tmp 21) _ rfl base 5 i0 _ 1 sl_u8 hi0 hy0 hy1 hy2 rfl A all.length c (cbs all) rfl hf (cbs_one _) _ A2 m c2 (cbs l) rfl hs2 (cbs_one _) hm1 hm2 hz ?_
                 intro A3 c3 w3 ha
                 have hf3 := ha.1
                 have hb3 := ha.below hf (Below.refl base w) hz (Nat.le_refl _)
                 have hblk3 : Blk w3 g 101 #[.slice A all.length c, .int .i64 (s : Int)] := (by
                   rcases ha.row hf with hgr | ⟨q, cur, _, hq, hgr⟩
                   · exact HB.out.grown hgr (by simp)
                   · refine HB.out.grown hgr (fun e => ?_)
                     injection e with e
                     subst e
                     have h1 := HB.out
                     unfold Blk at h1 hq
                     rw [h1] at hq
                     injection hq with hq
                     injection hq with _ ht
                     exact absurd ht (by decide))
                 have d0 : w3.cell? ⟨g, 0, none⟩ = some (.slice A all.length c) := (by rw [hblk3.cell]; rfl)
                 have f0 := hblk3.frozen 0
                 have HK3 := Lib.hid (Win.step (i := 0) ha.foots.1 HHI.out HO.out HGL.out (.slice A3 (all.length + m) c3))
                 have HKP := Lib.hid ((Keeps.appended ha hf).set_ (i := 0) hblk3 (.slice A3 (all.length + m) c3))
                 have HO3 := Lib.hid (show ∀ k, foot A3 c3 = some k → k < lo ∨ hi ≤ k from fun k hk => (ha.foots.2 k hk).elim (HO.out k) (fun h => .inr (Nat.le_trans HHI.out h)))
                 rw [← cbs_append] at hf3
                 have HB3 := Lib.hid (hblk3.set_ 0 (.slice A3 (all.length + m) c3))
                 have HF3 := Lib.hid (free_store (k := 0) hblk3 hf3 (.slice A3 (all.length + m) c3))
                 clear ha hf hs2 hblk3 hf3 c0)
    go_ret
    have e1 : (all ++ l).length = all.length + m := by rw [List.length_append, HLEN.out]
    exact ⟨rfl, ⟨A3, c3, by rw [e1]; exact HB3.out, HG.out, by rw [e1]; exact HF3.out, by rw [e1]; have := HS.out; omega, HO3.out⟩, hb3.setCell (by simpa using HG.out) _, HK3.out, HKP.out⟩

set_option maxRecDepth 100000 in
set_option maxHeartbeats 800000 in
/-- wal.Append, and a window -/
theorem wappend4_any (base g s lo hi : Nat) (all : List UInt8) (k : UInt8) (A : Option Addr) (n c : Nat) (l : List UInt8) (w : World) (h : DskO w base g all s lo hi) (hs : Sees w w.heap.size A n (cbs l)) (hz : base ≤ w.heap.size) (hall : all.length ≤ 1048576) (hglo : g < lo) (hhi : hi ≤ w.heap.size) :
    Calls Try.prog 49 #[.pointer (some ⟨g, 0, none⟩), .agg #[.int .u8 (k.toNat : Int), .slice A n c]] w fun e w' => e = .returned (.int .i64 ((appF all (k, l)).2 : Int)) ∧ DskO w' base g (appF all (k, l)).1 s lo hi ∧ Below base w w' ∧ Win lo hi w w' ∧ Keeps w w' := by
  have hcells := Blk.new w 29 #[.int .u8 (k.toNat : Int), .slice A n c]
  have c0 : (w.alloc (.cells #[.int .u8 (k.toNat : Int), .slice A n c] 29)).cell? ⟨w.heap.size, 0, none⟩ = some (.int .u8 (k.toNat : Int)) := by rw [hcells.cell]; rfl
  have c1 : (w.alloc (.cells #[.int .u8 (k.toNat : Int), .slice A n c] 29)).cell? ⟨w.heap.size, 1, none⟩ = some (.slice A n c) := by rw [hcells.cell]; rfl
  have hs1 := hs.past (.cells #[.int .u8 (k.toNat : Int), .slice A n c] 29)
  have hb1 := (Below.refl w.heap.size w).alloc (Nat.le_refl _) (.cells #[.int .u8 (k.toNat : Int), .slice A n c] 29)
  have HW := Lib.hid (wbytes_any k A n c l _ hs1)
  have HD := Lib.hid (h.on hb1)
  have hbl := bytesF_len (k, l)
  have HAP := Lib.hid (show appF all (k, l) = if (bytesF (k, l)).2 ≠ 0 then (all, (bytesF (k, l)).2) else writeF all (bytesF (k, l)).1 from rfl)
  have HGL := Lib.hid hglo
  have HHI := Lib.hid hhi
  clear hcells hs1 hs h hglo hhi
  go_enter Try.func49, Try.ntmps49
  go_wp2_with fail
  generalize w.alloc (.cells #[.int .u8 (k.toNat : Int), .slice A n c] 29) = w1 at *
  refine HW.out.mono ?_
  rintro e w2 ⟨A2, c2, rfl, hf2, hb2⟩
  have hb3 := bthen hb1 hb2
  have hd2 := HD.out.on hb2
  generalize bytesF (k, l) = B at *
  obtain ⟨bs, be⟩ := B
  simp only at hf2 hbl HAP
  by_cases hE : be = 0
  · subst hE
    have hap := HAP.out
    rw [if_neg (by simp)] at hap
    have HA := Lib.hid hap
    have hz3 : base ≤ w2.heap.size := Nat.le_trans hz hb3.size
    have HWR := Lib.hid (dWrite4_any base g s lo hi all A2 bs.length c2 bs w2 hd2 hf2.sees (by omega) hz3 hall HGL.out (Nat.le_trans HHI.out hb3.size))
    clear hap HAP HW HD c0 c1 hf2 hd2
    generalize bs.length = bn at *
    go_wp2_with (go_at_call 72; refine HWR.out.mono ?_; rintro e w4 ⟨rfl, hd4, hb4, hk4, hkp4⟩)
    go_ret
    rw [HA.out]
    exact ⟨rfl, hd4, (hb3.mono hz).trans hb4, (Win.below hb3 HHI.out).trans hk4, (Keeps.below hb3).trans hkp4⟩
  · have hE' : ¬ (be : Int) = 0 := by omega
    have hap := HAP.out
    rw [if_pos hE] at hap
    have HA := Lib.hid hap
    have hE2 : ((be : Int) == 0) = false := by rw [beq_eq_false_iff_ne]; exact hE'
    have HD2 := Lib.hid hd2
    clear hap HAP HW HD c0 c1 hf2 hd2
    go_wp2_with fail
    go_ret
    rw [HA.out]
    exact ⟨rfl, HD2.out, hb3.mono hz, Win.below hb3 HHI.out, Keeps.below hb3⟩
set_option maxRecDepth 100000 in
set_option maxHeartbeats 800000 in
/-- hard.Write, and what it leaves of rows of other types -/
theorem hwrite_k (base g sy : Nat) (all : List UInt8) (s : SvP) (A : Option Addr) (n c : Nat) (w : World) (h : Dsk w base g all sy) (hz : base ≤ w.heap.size) (hall : all.length ≤ 1048576) (hs : Ents w w.heap.size A s.es) (hl : s.es.length = n) (hn : n ≤ 1048576) (hsz : ∀ x ∈ s.es, x.s.size ≤ 65535) :
    Calls Try.prog 23 #[.pointer (some ⟨g, 0, none⟩), .agg #[.bool s.hard, .int .i64 s.t, .int .i64 s.v, .int .i64 s.f, .slice A n c]] w fun e w' => e = .returned (.int .i64 ((writeL all (recordsF s)).2 : Int)) ∧ Dsk w' base g (writeL all (recordsF s)).1 sy ∧ Below base w w' ∧ Keeps w w' := by
  obtain ⟨hd, t, v, f, es⟩ := s
  simp only at hs hl hsz ⊢
  have hA := Blk.new w 41 #[.bool hd, .int .i64 t, .int .i64 v, .int .i64 f, .slice A n c]
  have hb0 := (Below.refl w.heap.size w).alloc (Nat.le_refl _) (.cells #[.bool hd, .int .i64 t, .int .i64 v, .int .i64 f, .slice A n c] 41)
  have hs0 : Ents (w.alloc (.cells #[.bool hd, .int .i64 t, .int .i64 v, .int .i64 f, .slice A n c] 41)) (w.alloc (.cells #[.bool hd, .int .i64 t, .int .i64 v, .int .i64 f, .slice A n c] 41)).heap.size A es := Sees.on hs hb0
  have c0 : (w.alloc (.cells #[.bool hd, .int .i64 t, .int .i64 v, .int .i64 f, .slice A n c] 41)).cell? ⟨w.heap.size, 0, none⟩ = some (.bool hd) := by rw [hA.cell]; rfl
  have c1 : (w.alloc (.cells #[.bool hd, .int .i64 t, .int .i64 v, .int .i64 f, .slice A n c] 41)).cell? ⟨w.heap.size, 1, none⟩ = some (.int .i64 t) := by rw [hA.cell]; rfl
  have c2 : (w.alloc (.cells #[.bool hd, .int .i64 t, .int .i64 v, .int .i64 f, .slice A n c] 41)).cell? ⟨w.heap.size, 2, none⟩ = some (.int .i64 v) := by rw [hA.cell]; rfl
  have c3 : (w.alloc (.cells #[.bool hd, .int .i64 t, .int .i64 v, .int .i64 f, .slice A n c] 41)).cell? ⟨w.heap.size, 3, none⟩ = some (.int .i64 f) := by rw [hA.cell]; rfl
  have c4 : (w.alloc (.cells #[.bool hd, .int .i64 t, .int .i64 v, .int .i64 f, .slice A n c] 41)).cell? ⟨w.heap.size, 4, none⟩ = some (.slice A n c) := by rw [hA.cell]; rfl
  have HG := Lib.hid (Nat.lt_of_lt_of_le h.lt hb0.size)
  have HZ := Lib.hid hz
  have HD := Lib.hid (h.on hb0)
  have HB0 := Lib.hid (hb0.mono hz)
  have HKP0 := Lib.hid (Keeps.below hb0)
  have HR := Lib.hid (records_any ⟨hd, t, v, f, es⟩ A n c _ hs0 hl hn hsz)
  have hrl : (recordsF ⟨hd, t, v, f, es⟩).length ≤ 1048577 := by
    rw [recordsF_length]
    simp only
    split <;> omega
  generalize recordsF ⟨hd, t, v, f, es⟩ = ms at *
  have HRL := Lib.hid hrl
  have HALL := Lib.hid hall
  clear hA hs hs0 h hrl hl hn hsz hb0 hz hall
  simp only at HR
  go_enter Try.func23, Try.ntmps23
  go_wp2_with fail
  generalize w.alloc (.cells #[.bool hd, .int .i64 t, .int .i64 v, .int .i64 f, .slice A n c] 41) = w0 at *
  refine HR.out.mono ?_
  rintro e w1 ⟨A1, n1, cc1, rs, rfl, hms, hrn, hb1⟩
  have HMS := Lib.hid hms
  have HRN := Lib.hid hrn
  have HB1 := Lib.hid (HB0.out.trans (hb1.mono (Nat.le_trans HZ.out HB0.out.size)))
  have HKP1 := Lib.hid (HKP0.out.trans (Keeps.below hb1))
  have HN1 := Lib.hid (show n1 = ms.length by rw [← hrn.2.1, ← hms, List.length_map])
  have HDO := Lib.hid (((HD.out.out_of (Nat.le_refl _) : DskO w0 base g all sy w0.heap.size w1.heap.size)).on hb1)
  clear hms hrn hb1 c0 c1 c2 c3 c4
  generalize w0.heap.size = lo at *
  go_wp2_with fail
  go_loopw [11] (fun iv wr => ∃ (k : Nat) (al : List UInt8), k ≤ n1 ∧ iv = .int .i64 (k : Int) ∧ writeL all ms = writeL al (ms.drop k) ∧ al.length ≤ 1048576 ∧ DskO wr base g al sy lo w1.heap.size ∧ Win lo w1.heap.size w1 wr ∧ Below base w1 wr ∧ Keeps w1 wr) (fun iv _ => n1 - (intOf iv).toNat)
  case atStart => exact ⟨0, all, Nat.zero_le _, rfl, rfl, HALL.out, HDO.out, Win.refl _ _ _, Below.refl _ _, Keeps.refl _⟩
  case round =>
    obtain ⟨k, al, hk, rfl, hwl, hal, hdk, hwin, hbel, hkp⟩ := hrel
    have HKPR := Lib.hid hkp
    clear hkp
    by_cases hlt : k < n1
    · have hkm : k < ms.length := by have := HN1.out; omega
      have hkr : k < rs.length := by have := HRN.out.2.1; omega
      have hmm : ms[k] = (rs[k].k, rs[k].l) := by
        have : ms[k]? = (rs.map RecP.m)[k]? := by rw [HMS.out]
        rw [List.getElem?_eq_getElem hkm, List.getElem?_map, List.getElem?_eq_getElem hkr] at this
        injection this with this
      have hwd := writeL_drop al ms k hkm
      rw [hmm, ← hwl] at hwd
      obtain ⟨b, off, rfl, hbl, d0, d1, hsb⟩ := (HRN.out.win hwin).recs.at_ hkr
      have hlt' : (k : Int) < (n1 : Int) := by omega
      have hk20 : (k : Int) ≤ 1048577 := by have := HRL.out; omega
      clear hmm hwl
      generalize rs[k].k = kx at *
      generalize rs[k].A = Ax at *
      generalize rs[k].n = nx at *
      generalize rs[k].c = cx at *
      generalize rs[k].l = lx at *
      clear hkr hkm
      unfold cb at d0
      have hbx := (Below.refl wr.heap.size wr).alloc (Nat.le_refl _) (.cells #[.int .u8 (kx.toNat : Int), .slice Ax nx cx] 29)
      have hx := Blk.new wr 29 #[.int .u8 (kx.toNat : Int), .slice Ax nx cx]
      have e0 : (wr.alloc (.cells #[.int .u8 (kx.toNat : Int), .slice Ax nx cx] 29)).cell? ⟨wr.heap.size, 0, none⟩ = some (.int .u8 (kx.toNat : Int)) := by rw [hx.cell]; rfl
      have e1 : (wr.alloc (.cells #[.int .u8 (kx.toNat : Int), .slice Ax nx cx] 29)).cell? ⟨wr.heap.size, 1, none⟩ = some (.slice Ax nx cx) := by rw [hx.cell]; rfl
      have hzr : base ≤ wr.heap.size := Nat.le_trans HZ.out (Nat.le_trans HB1.out.size hbel.size)
      have HX := Lib.hid (wappend4_any base g sy lo w1.heap.size al kx Ax nx cx lx _ (hdk.on hbx) (hsb.past _) (Nat.le_trans hzr hbx.size) hal HG.out (Nat.le_trans hbel.size hbx.size))
      have HWX := Lib.hid (hwin.trans (Win.below hbx hbel.size))
      have HBX := Lib.hid (hbel.trans (hbx.mono hzr))
      have HKPX := Lib.hid (HKPR.out.trans (Keeps.below hbx))
      have HAL := Lib.hid (appF_le (kx, lx) hal)
      have HK := Lib.hid (show k < n1 from hlt)
      have HWD := Lib.hid hwd
      clear hbx hx hdk hsb hwin hbel hal hwd hlt hk hbl hzr
      generalize appF al (kx, lx) = B at *
      obtain ⟨bs, be⟩ := B
      simp only at HX HAL
      go_wp2_with fail
      refine HX.out.mono ?_
      rintro e w3 ⟨rfl, hd3, hb3, hw3, hkp3⟩
      have HKP3 := Lib.hid (HKPX.out.trans hkp3)
      clear hkp3
      have HD3 := Lib.hid hd3
      have HB3 := Lib.hid (HBX.out.trans hb3)
      have HW3 := Lib.hid (HWX.out.trans hw3)
      clear hd3 hb3 hw3 d0 d1 e0 e1
      by_cases hE : be = 0
      · subst hE
        have hwd := HWD.out
        rw [if_neg (by simp)] at hwd
        have HWL := Lib.hid hwd
        clear hwd HWD HX
        go_wp2_with fail
        go_roundw
        case rel => exact ⟨k + 1, bs, HK.out, by go_num, HWL.out, HAL.out, HD3.out, HW3.out, HB3.out, HKP3.out⟩
        case measure => have := HK.out; simp [intOf]; omega
      · have hE' : ¬ (be : Int) = 0 := by omega
        have hE2 : ((be : Int) == 0) = false := by rw [beq_eq_false_iff_ne]; exact hE'
        have hwd := HWD.out
        rw [if_pos hE] at hwd
        have HWL := Lib.hid hwd
        clear hwd HWD HX hE
        go_wp2_with fail
        go_ret
        rw [HWL.out]
        exact ⟨rfl, HD3.out.dsk, HB1.out.trans HB3.out, HKP1.out.trans HKP3.out⟩
    · have hlt' : ¬ (k : Int) < (n1 : Int) := by omega
      have hwl2 : writeL all ms = (al, 0) := by
        rw [hwl, List.drop_of_length_le (by have := HN1.out; omega)]
        rfl
      have HWL := Lib.hid hwl2
      have HDK := Lib.hid hdk
      have HBE := Lib.hid (HB1.out.trans hbel)
      clear hwl hwl2 hdk hbel hwin hal
      go_wp2_with fail
      go_ret
      rw [HWL.out]
      exact ⟨rfl, HDK.out.dsk, HBE.out, HKP1.out.trans HKPR.out⟩
/-- a block that wasn't there turns -/
theorem Keeps.new_set {a w : World} {g i : Nat} (h : Keeps a w) (hg : a.heap.size ≤ g) (u : Value) : Keeps a (w.setCell ⟨g, i, none⟩ u) := fun k cs t fr hk h1 h2 =>
  (Below.heap_setCell w ⟨g, i, none⟩ u k (fun e => by have h9 := (Array.getElem?_eq_some_iff.1 hk).1; have e9 : k = g := e; omega)).trans (h k cs t fr hk h1 h2)
theorem Dsk.blk2 {w : World} {base g s : Nat} {all : List UInt8} (h : Dsk w base g all s) : ∃ cs, Blk w g 101 cs := by
  obtain ⟨A, c, hb, _⟩ := h
  exact ⟨_, hb⟩

set_option maxRecDepth 100000 in
set_option maxHeartbeats 800000 in
/-- hard.Recover, of what isn't; and what it leaves of rows of other types -/
theorem hrecover_k (base g s : Nat) (all : List UInt8) (w : World) (h : Dsk w base g all s) (hz : base ≤ w.heap.size) (hall : all.length ≤ 1048576) (hlt : s ≤ (readB all).2.1) :
    Calls Try.prog 25 #[.pointer (some ⟨g, 0, none⟩)] w fun e w' => PlayOut w.heap.size (playF (readB all).1) e w' ∧ Dsk w' base g (all.take (readB all).2.1) (readB all).2.1 ∧ Below base w w' ∧ Keeps w w' := by
  have hA := Blk.new w 25 #[.int .i64 0, .int .i64 0, .slice none 0 0]
  have hb0 := (Below.refl w.heap.size w).alloc (Nat.le_refl _) (.cells #[.int .i64 0, .int .i64 0, .slice none 0 0] 25)
  have HR := Lib.hid (wrecover_any base g s all _ (h.on hb0) (Nat.le_trans hz hb0.size) hall hlt)
  have HG := Lib.hid h.lt
  have HA := Lib.hid hA
  have HB0 := Lib.hid hb0
  have HBKD := Lib.hid (h.on hb0).blk2
  have HZ := Lib.hid hz
  have hfew := readB_few all
  have hrt := (readB_inv _ all (Nat.le_refl _)).2.2
  have hsz : (w.alloc (.cells #[.int .i64 0, .int .i64 0, .slice none 0 0] 25)).heap.size = w.heap.size + 1 := by simp
  generalize readB all = R at *
  obtain ⟨ms, en, er⟩ := R
  simp only at hfew hrt HR ⊢
  obtain ⟨o, ho⟩ : ∃ o, playF ms = o := ⟨_, rfl⟩
  rw [ho]
  have HO := Lib.hid ho
  clear ho
  have HMS := Lib.hid (show ms.length ≤ 1048576 ∧ ∀ r ∈ ms, r.2.length ≤ 1073741824 from ⟨by omega, fun r hr => by have := (hrt r hr).2; omega⟩)
  have HSZ := Lib.hid hsz
  clear hA hb0 h hlt hz hfew hrt hall hsz
  go_enter Try.func25, Try.ntmps25
  go_wp2_with fail
  generalize w.alloc (.cells #[.int .i64 0, .int .i64 0, .slice none 0 0] 25) = w0 at *
  refine HR.out.mono ?_
  rintro e w2 ⟨A, c, rs, rfl, hms, hrf, hd2, hb2, hg2⟩
  have hrn : ∀ r ∈ rs, r.n ≤ 1073741824 := fun r hr => by
    have h1 := HMS.out.2 r.m (by rw [← hms]; exact List.mem_map_of_mem hr)
    have h2 := (hrf.2 r hr).1
    rw [cbs_length] at h2
    simp only [RecP.m] at h1
    omega
  have hrl : rs.length ≤ 1073741824 := by
    have h1 := HMS.out.1
    rw [← hms, List.length_map] at h1
    omega
  have HP := Lib.hid (Play_any A rs.length c rs w2 hrf.recs rfl hrl hrn)
  rw [hms] at HP
  have HA2 := Lib.hid (HA.out.grown hg2 (fun e => by injection e with e; have := HG.out; omega))
  have HD2 := Lib.hid hd2
  have HB2 := Lib.hid ((HB0.out.mono HZ.out).trans hb2)
  have HKP2 := Lib.hid (show Keeps w w2 from by obtain ⟨cs, hc⟩ := HBKD.out; exact (Keeps.below HB0.out).trans (Keeps.of_grown hc hg2))
  have HLT := Lib.hid (show w.heap.size < w2.heap.size by have := HSZ.out; have := hb2.size; omega)
  clear hms hrf hd2 hb2 hg2 hrn hrl HR
  generalize rs.length = n at *
  rw [HO.out] at HP
  go_wp2_with fail
  refine HP.out.mono ?_
  rintro e w3 ⟨hb3, ho⟩
  have hA3 := HA2.out.below hb3 HA2.out.lt
  have d0 : w3.cell? ⟨w.heap.size, 0, none⟩ = some (.int .i64 0) := by rw [hA3.cell]; rfl
  have d1 : w3.cell? ⟨w.heap.size, 1, none⟩ = some (.int .i64 0) := by rw [hA3.cell]; rfl
  have d2 : w3.cell? ⟨w.heap.size, 2, none⟩ = some (.slice none 0 0) := by rw [hA3.cell]; rfl
  have f0 := hA3.frozen 0
  have f1 := hA3.frozen 1
  have f2 := hA3.frozen 2
  have hd3 := HD2.out.on hb3
  have HKP3 := Lib.hid (HKP2.out.trans (Keeps.below hb3))
  have hbe := HB2.out.trans (hb3.mono (Nat.le_trans HZ.out (Nat.le_of_lt HLT.out)))
  cases o with
  | none =>
    simp only at ho
    subst ho
    have HA4 := Lib.hid (((hA3.set_ 0 (.int .i64 0)).set_ 1 (.int .i64 0)).set_ 2 (.slice none 0 0))
    have HBF := Lib.hid (((hbe.setCell (p := ⟨w.heap.size, 0, none⟩) HZ.out (.int .i64 0)).setCell (p := ⟨w.heap.size, 1, none⟩) HZ.out (.int .i64 0)).setCell (p := ⟨w.heap.size, 2, none⟩) HZ.out (.slice none 0 0))
    have HDF := Lib.hid (((hd3.st (i := 0) hA3 (.int .i64 0)).st (i := 1) (hA3.set_ 0 (.int .i64 0)) (.int .i64 0)).st (i := 2) ((hA3.set_ 0 (.int .i64 0)).set_ 1 (.int .i64 0)) (.slice none 0 0))
    clear hA3 hd3 hb3 hbe HP
    go_wp2_with fail
    (try simp only [Exit.inBlock, Exit.then])
    refine bodyPost_ret (results_row2 rfl _ _ w.heap.size 25 #[.int .i64 0, .int .i64 0, .slice none 0 0] _ rfl HA4.out Try.underlying25 rfl st_size) rfl ?_
    exact ⟨rfl, HDF.out, HBF.out, ((HKP3.out.new_set (Nat.le_refl _) _).new_set (Nat.le_refl _) _).new_set (Nat.le_refl _) _⟩
  | some st =>
    obtain ⟨t, v, es⟩ := st
    simp only at ho
    obtain ⟨A3, n3, c3, rfl, hn3, hf3⟩ := ho
    have hfar : ∀ k, foot A3 c3 = some k → k ≠ w.heap.size := fun k hk => by have := (hf3.foot_at k hk).1; have := HLT.out; omega
    have HF := Lib.hid ((((hf3.mono (base' := w.heap.size) (Nat.le_of_lt HLT.out)).far (p := ⟨w.heap.size, 0, none⟩) hfar (.int .i64 t)).far (p := ⟨w.heap.size, 1, none⟩) hfar (.int .i64 v)).far (p := ⟨w.heap.size, 2, none⟩) hfar (.slice A3 n3 c3))
    have HN3 := Lib.hid hn3
    have HA4 := Lib.hid (((hA3.set_ 0 (.int .i64 t)).set_ 1 (.int .i64 v)).set_ 2 (.slice A3 n3 c3))
    have HBF := Lib.hid (((hbe.setCell (p := ⟨w.heap.size, 0, none⟩) HZ.out (.int .i64 t)).setCell (p := ⟨w.heap.size, 1, none⟩) HZ.out (.int .i64 v)).setCell (p := ⟨w.heap.size, 2, none⟩) HZ.out (.slice A3 n3 c3))
    have HDF := Lib.hid (((hd3.st (i := 0) hA3 (.int .i64 t)).st (i := 1) (hA3.set_ 0 (.int .i64 t)) (.int .i64 v)).st (i := 2) ((hA3.set_ 0 (.int .i64 t)).set_ 1 (.int .i64 v)) (.slice A3 n3 c3))
    clear hA3 hd3 hb3 hbe HP hf3 hfar hn3
    go_wp2_with fail
    (try simp only [Exit.inBlock, Exit.then])
    refine bodyPost_ret (results_row2 rfl _ _ w.heap.size 25 #[.int .i64 t, .int .i64 v, .slice A3 n3 c3] _ rfl HA4.out Try.underlying25 rfl st_size) rfl ?_
    exact ⟨⟨A3, n3, c3, rfl, HN3.out, HF.out⟩, HDF.out, HBF.out, ((HKP3.out.new_set (Nat.le_refl _) _).new_set (Nat.le_refl _) _).new_set (Nat.le_refl _) _⟩

theorem playF_right {l : List RecM} {s : StP} (h : playF l = some s) : rightS s = true := by
  unfold playF at h
  cases hp : playL play0 l with
  | none => rw [hp] at h; cases h
  | some s' =>
    rw [hp] at h
    simp only [Option.bind_some] at h
    split at h
    · rename_i hr
      injection h with h
      rw [← h]
      exact hr
    · cases h
theorem right_len {s : StP} (h : rightS s = true) : s.es.length ≤ 1024 := by
  apply Decidable.byContradiction
  intro hn
  rw [rightS_n s hn] at h
  cases h

/-- what the program tells of records -/
def GotAns (w : World) (o : Option StP) (e : Ending) (w' : World) : Prop :=
  ∃ (g : StP) (A' : Option Addr) (n' c' : Nat) (z : Int), e = .returned (.tuple #[.agg #[.int .i64 g.t, .int .i64 g.v, .slice A' n' c'], .int .i64 z]) ∧ Ents w' w'.heap.size A' g.es ∧ g.es.length = n' ∧ n' ≤ 1024 ∧ (o = none → z = 2 ∧ g = ⟨0, 0, []⟩) ∧ (∀ s', o = some s' → z = 0 ∧ g = s') ∧ Below w.heap.size w w'
theorem got_ans {w w' : World} {l : List RecM} {e : Ending} (h : PlayAns w (playF l) e w') : GotAns w (playF l) e w' := by
  obtain ⟨hb, h⟩ := h
  cases ho : playF l with
  | none =>
    rw [ho] at h
    exact ⟨⟨0, 0, []⟩, none, 0, 0, 2, h, Ents.nil _ _ _, rfl, by decide, fun _ => ⟨rfl, rfl⟩, (fun s' h => by cases h), hb⟩
  | some s =>
    rw [ho] at h
    obtain ⟨A, n, c, he, hl, hf⟩ := h
    exact ⟨s, A, n, c, 0, he, by subst hl; exact hf.sees, hl, by have := right_len (playF_right ho); omega, (fun h => by cases h), fun s' h => (by injection h with h; exact ⟨rfl, h⟩), hb⟩
/-- what the document tells of them -/
def WantAns (w : World) (o : Option StP) (e : Ending) (w' : World) : Prop :=
  ∃ (g : StP) (A' : Option Addr) (n' c' : Nat) (q : Bool), e = .returned (.tuple #[.agg #[.int .i64 g.t, .int .i64 g.v, .slice A' n' c'], .bool q]) ∧ Ents w' w'.heap.size A' g.es ∧ g.es.length = n' ∧ n' ≤ 1024 ∧ (o = none → q = false) ∧ (∀ s', o = some s' → q = true ∧ g = s') ∧ Below w.heap.size w w'
theorem want_ans {w w' : World} {l : List RecM} {e : Ending} (h : RefAns w (playF l) e w') : WantAns w (playF l) e w' := by
  obtain ⟨hb, h⟩ := h
  cases ho : playF l with
  | none =>
    rw [ho] at h
    exact ⟨⟨0, 0, []⟩, none, 0, 0, false, h, Ents.nil _ _ _, rfl, by decide, fun _ => rfl, (fun s' h => by cases h), hb⟩
  | some s =>
    rw [ho] at h
    obtain ⟨A, n, c, he, hl, hf⟩ := h
    exact ⟨s, A, n, c, true, he, by subst hl; exact hf.sees, hl, by have := right_len (playF_right ho); omega, (fun h => by cases h), fun s' h => (by injection h with h; exact ⟨rfl, h⟩), hb⟩
theorem Blk3 {w : World} {g : Nat} {t : TypeId} {a b c : Value} (h : Blk w g t #[a, b, c]) : w.cell? ⟨g, 0, none⟩ = some a ∧ w.cell? ⟨g, 1, none⟩ = some b ∧ w.cell? ⟨g, 2, none⟩ = some c := ⟨by rw [h.cell]; rfl, by rw [h.cell]; rfl, by rw [h.cell]; rfl⟩

/-- what the program tells of a disk, but for the memory -/
theorem got_out {base : Nat} {w' : World} {l : List RecM} {e : Ending} (h : PlayOut base (playF l) e w') :
    ∃ (g : StP) (A' : Option Addr) (n' c' : Nat) (z : Int), e = .returned (.tuple #[.agg #[.int .i64 g.t, .int .i64 g.v, .slice A' n' c'], .int .i64 z]) ∧ Ents w' w'.heap.size A' g.es ∧ g.es.length = n' ∧ n' ≤ 1024 ∧ (playF l = none → z = 2 ∧ g = ⟨0, 0, []⟩) ∧ (∀ s', playF l = some s' → z = 0 ∧ g = s') := by
  unfold PlayOut at h
  cases ho : playF l with
  | none =>
    rw [ho] at h
    exact ⟨⟨0, 0, []⟩, none, 0, 0, 2, h, Ents.nil _ _ _, rfl, by decide, fun _ => ⟨rfl, rfl⟩, (fun s' h => by cases h)⟩
  | some s =>
    rw [ho] at h
    obtain ⟨A, n, c, he, hl, hf⟩ := h
    exact ⟨s, A, n, c, 0, he, by subst hl; exact hf.sees, hl, by have := right_len (playF_right ho); omega, (fun h => by cases h), fun s' h => (by injection h with h; exact ⟨rfl, h⟩)⟩

theorem save_row : (Try.prog.info? 41).map (fun i => (i.zero, i.size, i.bytes)) = some (some (.agg #[.bool false, .int .i64 0, .int .i64 0, .int .i64 0, .slice none 0 0]), 5, 56) := by kernel_rfl
theorem ssave_u : Try.prog.underlying 47 = some (.slice 41) := Try.underlying47
/-- a save's five cells -/
def SvL.cells (x : SvL) : List Value := [.bool x.s.hard, .int .i64 x.s.t, .int .i64 x.s.v, .int .i64 x.s.f, .slice x.A x.n x.c]
def svcs (ls : List SvL) : List Value := ls.flatMap SvL.cells
theorem svcs_append (a b : List SvL) : svcs (a ++ b) = svcs a ++ svcs b := by simp [svcs]
theorem svcs_cons (x : SvL) (ls : List SvL) : svcs (x :: ls) = x.cells ++ svcs ls := by simp [svcs]
theorem svcs_length (ls : List SvL) : (svcs ls).length = ls.length * 5 := by
  induction ls with
  | nil => rfl
  | cons x ls ih => rw [svcs_cons, List.length_append, ih]; simp [SvL.cells]; omega
theorem svcs_one (ls : List SvL) : ∀ u ∈ svcs ls, u.oneCell' = true := by
  intro u hu
  obtain ⟨x, _, hx⟩ := List.mem_flatMap.1 hu
  simp only [SvL.cells, List.mem_cons, List.not_mem_nil, or_false] at hx
  rcases hx with rfl | rfl | rfl | rfl | rfl <;> rfl
theorem svcs_get : ∀ (ls : List SvL) (i r : Nat) (hi : i < ls.length) (_ : r < 5), (svcs ls)[i * 5 + r]? = ls[i].cells[r]?
  | x :: ls, 0, r, _, hr => by
    rw [svcs_cons, Nat.zero_mul, Nat.zero_add, List.getElem?_append_left (by simp [SvL.cells]; omega)]
    rfl
  | x :: ls, i + 1, r, hi, hr => by
    rw [svcs_cons, List.getElem?_append_right (by simp [SvL.cells]; omega), show (i + 1) * 5 + r - x.cells.length = i * 5 + r from by simp [SvL.cells]; omega]
    rw [svcs_get ls i r (by simpa using hi) hr]
    rfl
/-- a row of saves that came in -/
theorem SavesL.sees {w : World} {B : Nat} {A : Option Addr} {n : Nat} {f : Nat → SvL} (h : SavesL w B A n f) : Sees w B A (n * 5) (svcs ((List.range n).map f)) := by
  refine ⟨by rw [svcs_length]; simp, fun hn => ?_⟩
  obtain ⟨b, off, hA, hb, hc⟩ := h.2 (by omega)
  refine ⟨b, off, hA, hb, fun j u hu => ?_⟩
  have hj : j < n * 5 := by
    have := (List.getElem?_eq_some_iff.1 hu).1
    rw [svcs_length] at this
    simpa using this
  obtain ⟨i, r, rfl, hr⟩ : ∃ i r, j = i * 5 + r ∧ r < 5 := ⟨j / 5, j % 5, by omega, by omega⟩
  have hi : i < n := by omega
  rw [svcs_get _ i r (by simpa using hi) hr] at hu
  simp only [List.getElem_map, List.getElem_range] at hu
  obtain ⟨c0, c1, c2, c3, c4⟩ := hc i hi
  have e : off + (i * 5 + r) = off + i * 5 + r := by omega
  rw [e]
  have hrr : r = 0 ∨ r = 1 ∨ r = 2 ∨ r = 3 ∨ r = 4 := by omega
  rcases hrr with rfl | rfl | rfl | rfl | rfl
  · injection hu with hu; rw [← hu]; exact c0
  · injection hu with hu; rw [← hu]; exact c1
  · injection hu with hu; rw [← hu]; exact c2
  · injection hu with hu; rw [← hu]; exact c3
  · injection hu with hu; rw [← hu]; exact c4
/-- the cells of one of a row -/
theorem sees_save {w : World} {B : Nat} {A : Option Addr} {ls : List SvL} (h : Sees w B A (ls.length * 5) (svcs ls)) {k : Nat} (hk : k < ls.length) :
    ∃ b off, A = some ⟨b, off, none⟩ ∧ b < B ∧ w.cell? ⟨b, off + k * 5, none⟩ = some (.bool ls[k].s.hard) ∧ w.cell? ⟨b, off + k * 5 + 1, none⟩ = some (.int .i64 ls[k].s.t) ∧ w.cell? ⟨b, off + k * 5 + 2, none⟩ = some (.int .i64 ls[k].s.v) ∧ w.cell? ⟨b, off + k * 5 + 3, none⟩ = some (.int .i64 ls[k].s.f) ∧ w.cell? ⟨b, off + k * 5 + 4, none⟩ = some (.slice ls[k].A ls[k].n ls[k].c) := by
  obtain ⟨b, off, hA, hb, hc⟩ := h.2 (by omega)
  have g := fun r hr => svcs_get ls k r hk hr
  have q : ∀ r (hr : r < 5) u, ls[k].cells[r]? = some u → w.cell? ⟨b, off + k * 5 + r, none⟩ = some u := fun r hr u hu => by
    rw [show off + k * 5 + r = off + (k * 5 + r) from by omega]
    exact hc _ _ ((g r hr).trans hu)
  exact ⟨b, off, hA, hb, q 0 (by omega) _ rfl, q 1 (by omega) _ rfl, q 2 (by omega) _ rfl, q 3 (by omega) _ rfl, q 4 (by omega) _ rfl⟩

/-- the records of the first k saves -/
def RK (ls : List SvL) (k : Nat) : List RecM := (ls.take k).flatMap fun x => recordsF x.s
theorem RK_zero (ls : List SvL) : RK ls 0 = [] := by simp [RK]
theorem RK_succ (ls : List SvL) (k : Nat) (hk : k < ls.length) : RK ls (k + 1) = RK ls k ++ recordsF ls[k].s := by
  unfold RK
  rw [List.take_succ_eq_append_getElem hk, List.flatMap_append]
  simp
theorem RK_all (a b : List SvL) : RK (a ++ b) (a.length + b.length) = RK (a ++ b) a.length ++ b.flatMap fun x => recordsF x.s := by
  unfold RK
  rw [List.take_of_length_le (by simp), List.take_left, List.flatMap_append]
theorem few_true {s : SvP} (h : fewF s = true) : s.es.length ≤ 12 ∧ ∀ x ∈ s.es, x.s.size ≤ 600 := by
  unfold fewF at h
  rw [Bool.and_eq_true, List.all_eq_true, decide_eq_true_iff] at h
  exact ⟨h.2, fun x hx => by simpa using h.1 x hx⟩
theorem rec_small (s : SvP) (h6 : ∀ x ∈ s.es, x.s.size ≤ 600) : ∀ r ∈ recordsF s, r.1 ≠ 0 ∧ r.2.length ≤ 618 := by
  intro r hr
  unfold recordsF at hr
  rcases List.mem_append.1 hr with hr | hr
  · split at hr
    · rw [List.mem_singleton.1 hr]
      exact ⟨by simp [hardR], by simp [hardR, intB]⟩
    · cases hr
  · unfold entsK at hr
    obtain ⟨i, hi, rfl⟩ := List.mem_map.1 hr
    have hi' : i < s.es.length := List.mem_range.1 hi
    have hg : s.es.getD i ⟨0, ⟨#[]⟩⟩ = s.es[i] := by rw [List.getD_eq_getElem?_getD, List.getElem?_eq_getElem hi']; rfl
    have hz := h6 s.es[i] (List.getElem_mem hi')
    rw [hg]
    refine ⟨by simp [entR], ?_⟩
    simp only [entR, intB, textBytes, List.length_append, be_length, List.length_take, text_len]
    omega
theorem recsB_small (ms : List RecM) (h : ∀ r ∈ ms, r.2.length ≤ 618) : (recsB ms).length ≤ 627 * ms.length := by
  induction ms with
  | nil => simp [recsB_nil]
  | cons r ms ih =>
    rw [recsB_cons, List.length_append, recB_length, List.length_cons]
    have h1 := ih (fun x hx => h x (by simp [hx]))
    have h2 := h r (by simp)
    omega
theorem few_records {s : SvP} (h : fewF s = true) : (∀ r ∈ recordsF s, RightM r ∧ r.2.length ≤ 618) ∧ (recsB (recordsF s)).length ≤ 9000 ∧ (recordsF s).length ≤ 13 := by
  obtain ⟨h1, h2⟩ := few_true h
  have h3 := rec_small s h2
  have h4 : (recordsF s).length ≤ 13 := by rw [recordsF_length]; split <;> omega
  have h5 := recsB_small _ (fun r hr => (h3 r hr).2)
  exact ⟨fun r hr => ⟨⟨(h3 r hr).1, by have := (h3 r hr).2; omega⟩, (h3 r hr).2⟩, by omega, h4⟩

section
variable {w w' : World} {base n c sz : Nat} {e : TypeId} {A : Option Addr} {xs : List Value}
/-- behind an append onto a row blocks of other types are as they were -/
theorem FreeN.far_blk (ho : FreeN sz w base e A n c xs) (hg : w.grownBy w' (foot A c)) {k : Nat} {t : TypeId} {cs : Array Value} (hb : Blk w k t cs) (hne : t ≠ e) : Blk w' k t cs := by
  refine hb.grown hg (fun h => ?_)
  obtain ⟨_, cur, hB⟩ := ho.foot_at k h.symm
  exact hb.apart hB hne rfl
theorem FreeN.far_dsk (ho : FreeN sz w base e A n c xs) (hg : w.grownBy w' (foot A c)) (h1 : 5 ≠ e) (h2 : 101 ≠ e) {b g s : Nat} {all : List UInt8} (h : Dsk w b g all s) : Dsk w' b g all s := by
  obtain ⟨A', c', hb, hg0, hf, hs⟩ := h
  refine ⟨A', c', ho.far_blk hg hb h2, hg0, ⟨hf.1, hf.2.1, hf.2.2.1, fun hc => ?_⟩, hs⟩
  obtain ⟨q, off, cur, hA, hq0, hq, hx⟩ := hf.2.2.2 hc
  exact ⟨q, off, cur, hA, hq0, ho.far_blk hg hq h1, hx⟩
theorem FreeN.far_own (ho : FreeN sz w base e A n c xs) (hg : w.grownBy w' (foot A c)) {b2 : Nat} {e2 : TypeId} {sz2 n2 : Nat} {v2 : Value} {ys : List Value} (h : w.ownsRow b2 e2 sz2 v2 n2 ys) (hne : e2 ≠ e) : w'.ownsRow b2 e2 sz2 v2 n2 ys := by
  refine ⟨h.1, ?_⟩
  rcases h.2 with hn | ⟨q, cap, cur, rfl, hb, hq, rest⟩
  · exact .inl hn
  · exact .inr ⟨q, cap, cur, rfl, hb, ho.far_blk hg hq hne, rest⟩
theorem Keeps.free (h : Keeps w w') (ho : FreeN sz w base e A n c xs) (h1 : e ≠ 5) (h2 : e ≠ 101) : FreeN sz w' base e A n c xs := ho.keep fun k hk => by
  obtain ⟨_, cur, hB⟩ := ho.foot_at k hk
  exact h k _ _ _ hB h1 h2
theorem FreeN.foot_lt (ho : FreeN sz w base e A n c xs) {q : Nat} (hq : foot A c = some q) : q < w.heap.size := by
  obtain ⟨_, cur, hB⟩ := ho.foot_at q hq
  exact hB.lt
end
theorem free_toks {w : World} {base n c k : Nat} {A : Option Addr} {ms : List RecM} (h : FreeN 2 w base 46 A n c (tcs ms)) (hn : ms.length = n) (hk : k ≤ n) : Toks w w.heap.size A (ms.take k) := by
  have h1 := (h.upto hk).sees
  rw [tcs_take] at h1
  have e : (ms.take k).length = k := by rw [List.length_take]; omega
  unfold Toks
  rw [e]
  exact h1
end Go.Proofs.Ytmhgbpgbnfdokaa
