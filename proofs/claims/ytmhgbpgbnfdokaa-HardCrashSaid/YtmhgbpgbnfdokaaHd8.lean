/- The walk of package hard's Write: a save's records, one behind the other. -/
import Derived.Test.YtmhgbpgbnfdokaaHd7
namespace Go.Proofs.Ytmhgbpgbnfdokaa
open Go.RowKit

/-- records written one behind the other, up to the first fault -/
def writeL : List UInt8 → List RecM → List UInt8 × Nat
  | all, [] => (all, 0)
  | all, r :: l => if (appF all r).2 ≠ 0 then appF all r else writeL (appF all r).1 l
theorem writeL_drop (all : List UInt8) (ms : List RecM) (k : Nat) (hk : k < ms.length) : writeL all (ms.drop k) = if (appF all ms[k]).2 ≠ 0 then appF all ms[k] else writeL (appF all ms[k]).1 (ms.drop (k + 1)) := by
  rw [List.drop_eq_getElem_cons hk]
  rfl
theorem appF_le {all : List UInt8} (r : RecM) (h : all.length ≤ 1048576) : (appF all r).1.length ≤ 1048576 := by
  unfold appF
  split
  · exact h
  · unfold writeF
    split
    · exact h
    · simp only [List.length_append]
      omega
theorem writeL_le {all : List UInt8} (l : List RecM) (h : all.length ≤ 1048576) : (writeL all l).1.length ≤ 1048576 := by
  induction l generalizing all with
  | nil => exact h
  | cons r l ih =>
    unfold writeL
    split
    · exact appF_le r h
    · exact ih (appF_le r h)

theorem RecsN.win {w w' : World} {base n c : Nat} {A : Option Addr} {rs : List RecP} (h : RecsN w base A n c rs) (hw : Win base w.heap.size w w') : RecsN w' base A n c rs := by
  refine ⟨h.1.keep fun k hk => ?_, h.2.1, fun r hr => ⟨(h.2.2 r hr).1, ?_⟩⟩
  · obtain ⟨hb, cur, hB⟩ := h.1.foot_at k hk
    exact hw k hb hB.lt
  · obtain ⟨f1, f2, f3, f4⟩ := (h.2.2 r hr).2
    refine ⟨f1, f2, f3, fun hc => ?_⟩
    obtain ⟨g, off, cur, hA, hg, hB, hs⟩ := f4 hc
    exact ⟨g, off, cur, hA, hg, (hw g hg hB.lt).trans hB, hs⟩

set_option maxRecDepth 100000 in
set_option maxHeartbeats 800000 in
/-- hard.Write -/
theorem hwrite_any (base g sy : Nat) (all : List UInt8) (s : SvP) (A : Option Addr) (n c : Nat) (w : World) (h : Dsk w base g all sy) (hz : base ≤ w.heap.size) (hall : all.length ≤ 1048576) (hs : Ents w w.heap.size A s.es) (hl : s.es.length = n) (hn : n ≤ 1048576) (hsz : ∀ x ∈ s.es, x.s.size ≤ 65535) :
    Calls Try.prog 23 #[.pointer (some ⟨g, 0, none⟩), .agg #[.bool s.hard, .int .i64 s.t, .int .i64 s.v, .int .i64 s.f, .slice A n c]] w fun e w' => e = .returned (.int .i64 ((writeL all (recordsF s)).2 : Int)) ∧ Dsk w' base g (writeL all (recordsF s)).1 sy ∧ Below base w w' := by
  obtain ⟨hd, t, v, f, es⟩ := s
  simp only at hs hl hsz ⊢
  have hA := Blk.new w 41 #[.bool hd, .int .i64 t, .int .i64 v, .int .i64 f, .slice A n c]
  have hb0 := (Below.refl w.heap.size w).alloc (Nat.le_refl _) (.cells #[.bool hd, .int .i64 t, .int .i64 v, .int .i64 f, .slice A n c] 41)
  have hs0 : Ents (w.alloc (.cells #[.bool hd, .int .i64 t, .int .i64 v, .int .i64 f, .slice A n c] 41)) (w.alloc (.cells #[.bool hd, .int .i64 t, .int .i64 v, .int .i64 f, .slice A n c] 41)).heap.size A es := Sees.on hs hb0
  have c0 : (w.alloc (.cells #[.bool hd, .int .i64 t, .int .i64 v, .int .i64 f, .slice A n c] 41)).cell? ⟨w.heap.size, 0, none⟩ = some (.bool hd) := by rw [hA.cell]; rfl
  have c1 : (w.alloc (.cells #[.bool hd, .int .i64 t, .int .i64 v, .int .i64 f, .slice A n c] 41)).cell? ⟨w.heap.size, 1, none⟩ = some (.int .i64 t) := by rw [hA.cell]; rfl
  have c2 : (w.alloc (.cells #[.bool hd, .int .i64 t, .int .i64 v, .int .i64 f, .slice A n c] 41)).cell? ⟨w.heap.size, 2, none⟩ = some (.int .i64 v) := by rw [hA.cell]; rfl
  have c3 : (w.alloc (.cells #[.bool hd, .int .i64 t, .int .i64 v, .int .i64 f, .slice A n c] 41)).cell? ⟨w.heap.size, 3, none⟩ = some (.int .i64 f) := by rw [hA.cell]; rfl
  have c4 : (w.alloc (.cells #[.bool hd, .int .i64 t, .int .i64 v, .int .i64 f, .slice A n c] 41)).cell? ⟨w.heap.size, 4, none⟩ = some (.slice A n c) := by rw [hA.cell]; rfl
  have HG := Lib.hid (Nat.lt_of_lt_of_le h.lt hb0.size)
  have HZ := Lib.hid hz
  have HD := Lib.hid (h.on hb0)
  have HB0 := Lib.hid (hb0.mono hz)
  have HR := Lib.hid (records_any ⟨hd, t, v, f, es⟩ A n c _ hs0 hl hn hsz)
  have hrl : (recordsF ⟨hd, t, v, f, es⟩).length ≤ 1048577 := by
    rw [recordsF_length]
    simp only
    split <;> omega
  generalize recordsF ⟨hd, t, v, f, es⟩ = ms at *
  have HRL := Lib.hid hrl
  have HALL := Lib.hid hall
  clear hA hs hs0 h hrl hl hn hsz hb0 hz hall
  simp only at HR
  go_enter Try.func23, Try.ntmps23
  go_wp2_with fail
  generalize w.alloc (.cells #[.bool hd, .int .i64 t, .int .i64 v, .int .i64 f, .slice A n c] 41) = w0 at *
  refine HR.out.mono ?_
  rintro e w1 ⟨A1, n1, cc1, rs, rfl, hms, hrn, hb1⟩
  have HMS := Lib.hid hms
  have HRN := Lib.hid hrn
  have HB1 := Lib.hid (HB0.out.trans (hb1.mono (Nat.le_trans HZ.out HB0.out.size)))
  have HN1 := Lib.hid (show n1 = ms.length by rw [← hrn.2.1, ← hms, List.length_map])
  have HDO := Lib.hid (((HD.out.out_of (Nat.le_refl _) : DskO w0 base g all sy w0.heap.size w1.heap.size)).on hb1)
  clear hms hrn hb1 c0 c1 c2 c3 c4
  generalize w0.heap.size = lo at *
  go_wp2_with fail
  go_loopw [11] (fun iv wr => ∃ (k : Nat) (al : List UInt8), k ≤ n1 ∧ iv = .int .i64 (k : Int) ∧ writeL all ms = writeL al (ms.drop k) ∧ al.length ≤ 1048576 ∧ DskO wr base g al sy lo w1.heap.size ∧ Win lo w1.heap.size w1 wr ∧ Below base w1 wr) (fun iv _ => n1 - (intOf iv).toNat)
  case atStart => exact ⟨0, all, Nat.zero_le _, rfl, rfl, HALL.out, HDO.out, Win.refl _ _ _, Below.refl _ _⟩
  case round =>
    obtain ⟨k, al, hk, rfl, hwl, hal, hdk, hwin, hbel⟩ := hrel
    by_cases hlt : k < n1
    · have hkm : k < ms.length := by have := HN1.out; omega
      have hkr : k < rs.length := by have := HRN.out.2.1; omega
      have hmm : ms[k] = (rs[k].k, rs[k].l) := by
        have : ms[k]? = (rs.map RecP.m)[k]? := by rw [HMS.out]
        rw [List.getElem?_eq_getElem hkm, List.getElem?_map, List.getElem?_eq_getElem hkr] at this
        injection this with this
      have hwd := writeL_drop al ms k hkm
      rw [hmm, ← hwl] at hwd
      obtain ⟨b, off, rfl, hbl, d0, d1, hsb⟩ := (HRN.out.win hwin).recs.at_ hkr
      have hlt' : (k : Int) < (n1 : Int) := by omega
      have hk20 : (k : Int) ≤ 1048577 := by have := HRL.out; omega
      clear hmm hwl
      generalize rs[k].k = kx at *
      generalize rs[k].A = Ax at *
      generalize rs[k].n = nx at *
      generalize rs[k].c = cx at *
      generalize rs[k].l = lx at *
      clear hkr hkm
      unfold cb at d0
      have hbx := (Below.refl wr.heap.size wr).alloc (Nat.le_refl _) (.cells #[.int .u8 (kx.toNat : Int), .slice Ax nx cx] 29)
      have hx := Blk.new wr 29 #[.int .u8 (kx.toNat : Int), .slice Ax nx cx]
      have e0 : (wr.alloc (.cells #[.int .u8 (kx.toNat : Int), .slice Ax nx cx] 29)).cell? ⟨wr.heap.size, 0, none⟩ = some (.int .u8 (kx.toNat : Int)) := by rw [hx.cell]; rfl
      have e1 : (wr.alloc (.cells #[.int .u8 (kx.toNat : Int), .slice Ax nx cx] 29)).cell? ⟨wr.heap.size, 1, none⟩ = some (.slice Ax nx cx) := by rw [hx.cell]; rfl
      have hzr : base ≤ wr.heap.size := Nat.le_trans HZ.out (Nat.le_trans HB1.out.size hbel.size)
      have HX := Lib.hid (wappend3_any base g sy lo w1.heap.size al kx Ax nx cx lx _ (hdk.on hbx) (hsb.past _) (Nat.le_trans hzr hbx.size) hal HG.out (Nat.le_trans hbel.size hbx.size))
      have HWX := Lib.hid (hwin.trans (Win.below hbx hbel.size))
      have HBX := Lib.hid (hbel.trans (hbx.mono hzr))
      have HAL := Lib.hid (appF_le (kx, lx) hal)
      have HK := Lib.hid (show k < n1 from hlt)
      have HWD := Lib.hid hwd
      clear hbx hx hdk hsb hwin hbel hal hwd hlt hk hbl hzr
      generalize appF al (kx, lx) = B at *
      obtain ⟨bs, be⟩ := B
      simp only at HX HAL
      go_wp2_with fail
      refine HX.out.mono ?_
      rintro e w3 ⟨rfl, hd3, hb3, hw3⟩
      have HD3 := Lib.hid hd3
      have HB3 := Lib.hid (HBX.out.trans hb3)
      have HW3 := Lib.hid (HWX.out.trans hw3)
      clear hd3 hb3 hw3 d0 d1 e0 e1
      by_cases hE : be = 0
      · subst hE
        have hwd := HWD.out
        rw [if_neg (by simp)] at hwd
        have HWL := Lib.hid hwd
        clear hwd HWD HX
        go_wp2_with fail
        go_roundw
        case rel => exact ⟨k + 1, bs, HK.out, by go_num, HWL.out, HAL.out, HD3.out, HW3.out, HB3.out⟩
        case measure => have := HK.out; simp [intOf]; omega
      · have hE' : ¬ (be : Int) = 0 := by omega
        have hE2 : ((be : Int) == 0) = false := by rw [beq_eq_false_iff_ne]; exact hE'
        have hwd := HWD.out
        rw [if_pos hE] at hwd
        have HWL := Lib.hid hwd
        clear hwd HWD HX hE
        go_wp2_with fail
        go_ret
        rw [HWL.out]
        exact ⟨rfl, HD3.out.dsk, HB1.out.trans HB3.out⟩
    · have hlt' : ¬ (k : Int) < (n1 : Int) := by omega
      have hwl2 : writeL all ms = (al, 0) := by
        rw [hwl, List.drop_of_length_le (by have := HN1.out; omega)]
        rfl
      have HWL := Lib.hid hwl2
      have HDK := Lib.hid hdk
      have HBE := Lib.hid (HB1.out.trans hbel)
      clear hwl hwl2 hdk hbel hwin hal
      go_wp2_with fail
      go_ret
      rw [HWL.out]
      exact ⟨rfl, HDK.out.dsk, HBE.out⟩
end Go.Proofs.Ytmhgbpgbnfdokaa
