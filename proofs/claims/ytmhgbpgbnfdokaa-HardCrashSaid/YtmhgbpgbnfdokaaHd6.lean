/- The walk of package hard's Records: a save's records. -/
import Derived.Test.YtmhgbpgbnfdokaaHd5
namespace Go.Proofs.Ytmhgbpgbnfdokaa
open Go.RowKit

/-- a row of records that may be written: it, and what its records have, lies from block `base` on -/
def RecsN (w : World) (base : Nat) (A : Option Addr) (n c : Nat) (rs : List RecP) : Prop :=
  FreeN 2 w base 29 A n c (rcs rs) ∧ rs.length = n ∧ ∀ r ∈ rs, r.l.length = r.n ∧ Free w base 5 r.A r.n r.c (cbs r.l)
section
variable {w w' : World} {base n c : Nat} {A : Option Addr} {rs : List RecP}
theorem RecsN.nil (w : World) (base : Nat) : RecsN w base none 0 0 [] := ⟨FreeN.nil _ _ _ _, rfl, fun r hr => by cases hr⟩
theorem RecsN.on (h : RecsN w base A n c rs) (hb : Below w.heap.size w w') : RecsN w' base A n c rs := ⟨h.1.on hb, h.2.1, fun r hr => ⟨(h.2.2 r hr).1, (h.2.2 r hr).2.on hb⟩⟩
theorem RecsN.mono {base' : Nat} (h : RecsN w base A n c rs) (hb : base' ≤ base) : RecsN w base' A n c rs := ⟨h.1.mono hb, h.2.1, fun r hr => ⟨(h.2.2 r hr).1, (h.2.2 r hr).2.mono hb⟩⟩
theorem RecsN.recs (h : RecsN w base A n c rs) : Recs w w.heap.size A rs := ⟨by rw [h.2.1]; exact h.1.sees, fun r hr => (h.2.2 r hr).2.sees⟩
/-- a record more -/
theorem RecsN.grows {r : RecP} {A' : Option Addr} {c' : Nat} (h : RecsN w base A n c rs) (hr : r.l.length = r.n ∧ Free w base 5 r.A r.n r.c (cbs r.l)) (ha : AppendedN 2 w base 29 A n c (rcs rs) 1 (rcs [r]) A' c' w') : RecsN w' base A' (n + 1) c' (rs ++ [r]) := by
  have hfree : ∀ q : RecP, Free w base 5 q.A q.n q.c (cbs q.l) → Free w' base 5 q.A q.n q.c (cbs q.l) := fun q hq => by
    refine ⟨hq.1, hq.2.1, hq.2.2.1, fun hc => ?_⟩
    obtain ⟨g, off, cur, hA, hg, hB, hs⟩ := hq.2.2.2 hc
    refine ⟨g, off, cur, hA, hg, hB.grown ha.2.1 (fun e => ?_), hs⟩
    obtain ⟨_, cur2, hB2⟩ := h.1.foot_at g e.symm
    exact hB.apart hB2 (by decide) rfl
  refine ⟨by rw [rcs_append]; exact ha.1, by rw [List.length_append, h.2.1]; rfl, fun q hq => ?_⟩
  rcases List.mem_append.1 hq with hq | hq
  · exact ⟨(h.2.2 q hq).1, hfree q (h.2.2 q hq).2⟩
  · rw [List.mem_singleton.1 hq]
    exact ⟨hr.1, hfree r hr.2⟩
end
theorem rcs_one_new (w : World) (r : RecP) : Sees (w.alloc (.cells #[cb r.k, .slice r.A r.n r.c] 29)) (w.alloc (.cells #[cb r.k, .slice r.A r.n r.c] 29)).heap.size (some ⟨w.heap.size, 0, none⟩) (1 * 2) (rcs [r]) := sees_new w #[cb r.k, .slice r.A r.n r.c] 29

/-- what Records answers -/
def RecordsRet (w : World) (ms : List RecM) (e : Ending) (w' : World) : Prop :=
  ∃ A n c rs, e = .returned (.slice A n c) ∧ rs.map RecP.m = ms ∧ RecsN w' w.heap.size A n c rs ∧ Below w.heap.size w w'

set_option maxRecDepth 100000 in
set_option maxHeartbeats 800000 in
/-- hard.Records -/
theorem records_any (s : SvP) (A : Option Addr) (n c : Nat) (w : World) (hs : Ents w w.heap.size A s.es) (hl : s.es.length = n) (hn : n ≤ 1048576) (hsz : ∀ x ∈ s.es, x.s.size ≤ 65535) :
    Calls Try.prog 18 #[.agg #[.bool s.hard, .int .i64 s.t, .int .i64 s.v, .int .i64 s.f, .slice A n c]] w (RecordsRet w (recordsF s)) := by
  obtain ⟨hd, t, v, f, es⟩ := s
  simp only at hs hl hsz ⊢
  obtain ⟨i0, hi0, hz0, hz1, hz2⟩ := info_parts rec_row
  have hA := Blk.new w 41 #[.bool hd, .int .i64 t, .int .i64 v, .int .i64 f, .slice A n c]
  have hb0 := (Below.refl w.heap.size w).alloc (Nat.le_refl _) (.cells #[.bool hd, .int .i64 t, .int .i64 v, .int .i64 f, .slice A n c] 41)
  have hs0 : Ents (w.alloc (.cells #[.bool hd, .int .i64 t, .int .i64 v, .int .i64 f, .slice A n c] 41)) (w.alloc (.cells #[.bool hd, .int .i64 t, .int .i64 v, .int .i64 f, .slice A n c] 41)).heap.size A es := Sees.on hs hb0
  have HC := Lib.hid (fun (W : World) (hW : Below (w.alloc (.cells #[.bool hd, .int .i64 t, .int .i64 v, .int .i64 f, .slice A n c] 41)).heap.size (w.alloc (.cells #[.bool hd, .int .i64 t, .int .i64 v, .int .i64 f, .slice A n c] 41)) W) =>
    have hk := hA.below hW hA.lt
    (⟨by rw [hk.cell]; rfl, by rw [hk.cell]; rfl, by rw [hk.cell]; rfl, by rw [hk.cell]; rfl, by rw [hk.cell]; rfl⟩ : W.cell? ⟨w.heap.size, 0, none⟩ = some (.bool hd) ∧ W.cell? ⟨w.heap.size, 1, none⟩ = some (.int .i64 t) ∧ W.cell? ⟨w.heap.size, 2, none⟩ = some (.int .i64 v) ∧ W.cell? ⟨w.heap.size, 3, none⟩ = some (.int .i64 f) ∧ W.cell? ⟨w.heap.size, 4, none⟩ = some (.slice A n c)))
  obtain ⟨c0, c1, c2, c3, c4⟩ := HC.out _ (Below.refl _ _)
  clear hA hs
  go_enter Try.func18, Try.ntmps18
  go_upto_if 7 with (fail)
  generalize w.alloc (.cells #[.bool hd, .int .i64 t, .int .i64 v, .int .i64 f, .slice A n c] 41) = w0 at *
  have HB0 := Lib.hid hb0
  have HS0 := Lib.hid hs0
  have HL := Lib.hid hl
  have HSZ := Lib.hid hsz
  have HN := Lib.hid hn
  clear hb0 hs0 hl hsz hn
  go_cut [3] (fun rv wx => ∃ A' n' c' rs, rv = .slice A' n' c' ∧ rs.map RecP.m = (if hd then [hardR t v] else []) ∧ RecsN wx w0.heap.size A' n' c' rs ∧ n' ≤ 1 ∧ Below w0.heap.size w0 wx)
  case first =>
    cases hd with
    | false =>
      go_wp2_with fail
      go_meet
      exact ⟨none, 0, 0, [], rfl, rfl, RecsN.nil _ _, Nat.zero_le _, Below.refl _ _⟩
    | true =>
      go_wp2_with fail
      refine (hardRecord_any t v w0).mono ?_
      rintro e w1 ⟨A1, n1, c1', rfl, hn1, hf1, hb1⟩
      have hx : Sees (w1.alloc (.cells #[.int .u8 1, .slice A1 n1 c1'] 29)) (w1.alloc (.cells #[.int .u8 1, .slice A1 n1 c1'] 29)).heap.size (some ⟨w1.heap.size, 0, none⟩) (1 * 2) (rcs [⟨1, A1, n1, c1', intB t ++ intB v⟩]) := sees_new w1 #[.int .u8 1, .slice A1 n1 c1'] 29
      have hb2 := (Below.refl w1.heap.size w1).alloc (Nat.le_refl _) (.cells #[.int .u8 1, .slice A1 n1 c1'] 29)
      have HF1 := Lib.hid (hf1.on hb2)
      have HB1 := Lib.hid (bthen hb1 hb2)
      have HN1 := Lib.hid hn1
      have HNI := Lib.hid (RecsN.nil (w1.alloc (.cells #[.int .u8 1, .slice A1 n1 c1'] 29)) w0.heap.size)
      have hm1 : 0 + 1 ≤ maxLen := by decide
      clear hf1 hb1 hn1 hb2 c0 c1 c2 c3 c4
      go_wp2_with (at_builtin; go_loud (
        refine wpList_append_freeN (sz := 2) _ rfl (.tmp 8) (.tmp 14) _ rfl w0.heap.size 29 i0 _ 32 srec_u hi0 hz0 hz1 hz2 rfl (by decide) none 0 0 (rcs []) rfl HNI.out.1 _ _ 1 1 (rcs [⟨1, A1, n1, c1', intB t ++ intB v⟩]) rfl hx (rcs_one _) hm1 (by decide) HB1.out.size ?_
        intro A2 c2 w3 ha
        have HR2 := Lib.hid (HNI.out.grows (r := ⟨1, A1, n1, c1', intB t ++ intB v⟩) ⟨HN1.out, HF1.out⟩ ha)
        have HB2 := Lib.hid (ha.below HNI.out.1 HB1.out HB1.out.size (Nat.le_refl _))
        clear ha hx))
      go_meet
      exact ⟨A2, 1, c2, [] ++ [⟨1, A1, n1, c1', intB t ++ intB v⟩], rfl, rfl, HR2.out, Nat.le_refl _, HB2.out⟩
  case rest =>
    obtain ⟨A', n', c', rs, rfl, hms, hrn, hn1, hbc⟩ := hcut
    obtain ⟨c0, c1, c2, c3, c4⟩ := HC.out _ hbc
    have HMS := Lib.hid hms
    have HN1 := Lib.hid hn1
    clear hms hn1
    go_wp2_with fail
    go_loopw [3, 19] (fun rv iv wr => ∃ (k n2 : Nat) (A2 : Option Addr) (c2 : Nat) (rs2 : List RecP), k ≤ n ∧ rv = .slice A2 n2 c2 ∧ iv = .int .i64 (k : Int) ∧ rs2.map RecP.m = rs.map RecP.m ++ entsK f es k ∧ n2 = n' + k ∧ RecsN wr w0.heap.size A2 n2 c2 rs2 ∧ Below w0.heap.size w0 wr) (fun _ iv _ => n - (intOf iv).toNat)
    case atStart => exact ⟨0, n', A', c', rs, Nat.zero_le _, rfl, rfl, by simp [entsK], rfl, hrn, hbc⟩
    case round =>
      obtain ⟨k, n2, A2, c2', rs2, hk, rfl, rfl, hms2, hn2, hrn2, hbel⟩ := hrel
      clear c0 c1 c2 c3 c4 hrn hbc
      by_cases hlt : k < n
      · have hkl : k < es.length := by have := HL.out; omega
        obtain ⟨b, off, rfl, hbl, d0, d1⟩ := Ents.at_ HS0.out hkl
        have d0' := (hbel.cell (p := ⟨b, off + k * 2, none⟩) hbl).trans d0
        have d1' := (hbel.cell (p := ⟨b, off + k * 2 + 1, none⟩) hbl).trans d1
        have hlt' : (k : Int) < (n : Int) := by omega
        have hks := entsK_succ f es k hkl
        have hxz := HSZ.out es[k] (List.getElem_mem hkl)
        have hk20 : (k : Int) ≤ 1048576 := by have := HN.out; omega
        have hbe := (Below.refl wr.heap.size wr).alloc (Nat.le_refl _) (.cells #[.int .i64 es[k].t, .string es[k].s] 73)
        have hxe := Blk.new wr 73 #[.int .i64 es[k].t, .string es[k].s]
        have HKS := Lib.hid hks
        have HXZ := Lib.hid hxz
        have HMS2 := Lib.hid hms2
        have HN2 := Lib.hid hn2
        have HRN2 := Lib.hid (hrn2.on hbe)
        have HBE := Lib.hid (hbel.trans (hbe.mono hbel.size))
        clear d0 d1 hks hxz hms2 hn2 hrn2 hbe hbl
        generalize es[k] = x at *
        obtain ⟨c0, c1, c2, c3, c4⟩ := HC.out wr hbel
        have e0 : (wr.alloc (.cells #[.int .i64 x.t, .string x.s] 73)).cell? ⟨wr.heap.size, 0, none⟩ = some (.int .i64 x.t) := by rw [hxe.cell]; rfl
        have e1 : (wr.alloc (.cells #[.int .i64 x.t, .string x.s] 73)).cell? ⟨wr.heap.size, 1, none⟩ = some (.string x.s) := by rw [hxe.cell]; rfl
        obtain ⟨g0, g1, g2, g3, g4⟩ := HC.out _ HBE.out
        clear hbel hxe
        go_wp2_with fail
        refine (entryRecord_any (wrap64 (f + (k : Int))) x _ HXZ.out).mono ?_
        rintro e w3 ⟨A3, n3, cc3, rfl, hn3, hf3, hb3⟩
        have hx : Sees (w3.alloc (.cells #[.int .u8 2, .slice A3 n3 cc3] 29)) (w3.alloc (.cells #[.int .u8 2, .slice A3 n3 cc3] 29)).heap.size (some ⟨w3.heap.size, 0, none⟩) (1 * 2) (rcs [⟨2, A3, n3, cc3, (entR (wrap64 (f + (k : Int))) x).2⟩]) := sees_new w3 #[.int .u8 2, .slice A3 n3 cc3] 29
        have hb4 := (Below.refl w3.heap.size w3).alloc (Nat.le_refl _) (.cells #[.int .u8 2, .slice A3 n3 cc3] 29)
        have HF3 := Lib.hid ((hf3.mono (base' := w0.heap.size) HBE.out.size).on hb4)
        have HB3 := Lib.hid (HBE.out.trans ((bthen hb3 hb4).mono HBE.out.size))
        have HN3 := Lib.hid hn3
        have HRN3 := Lib.hid (HRN2.out.on (bthen hb3 hb4))
        have hm1 : n2 + 1 ≤ maxLen := Nat.le_trans (show n2 + 1 ≤ 1048578 by have := HN2.out; have := HN1.out; have := HN.out; omega) (by decide)
        have hm2 : (n2 + 1) * 32 ≤ 140737488355328 := by have := HN2.out; have := HN1.out; have := HN.out; clear hm1; omega
        have HK := Lib.hid (show k < n from hlt)
        have HM := Lib.hid (show rs2.map RecP.m ++ [entR (wrap64 (f + (k : Int))) x] = rs.map RecP.m ++ entsK f es (k + 1) by rw [HMS2.out, HKS.out, List.append_assoc])
        generalize hrr : (entR (wrap64 (f + (k : Int))) x) = rr at *
        have HRR := Lib.hid (show rr.1 = 2 by rw [← hrr]; rfl)
        clear hf3 hb3 hn3 hb4 c0 c1 c2 c3 c4 d0' d1' e0 e1 g0 g1 g2 g3 g4 hrr hlt hk
        have hr2 : (rr.1.toNat : Int) = 2 := by rw [HRR.out]; rfl
        go_wp2_with (at_builtin; go_loud (
          refine wpList_append_freeN (sz := 2) _ rfl (.tmp 24) (.tmp 31) _ rfl w0.heap.size 29 i0 _ 32 srec_u hi0 hz0 hz1 hz2 rfl (by decide) A2 n2 c2' (rcs rs2) rfl HRN3.out.1 _ _ 1 1 (rcs [⟨2, A3, n3, cc3, rr.2⟩]) rfl hx (rcs_one _) hm1 hm2 HB3.out.size ?_
          intro A5 c5 w5 ha
          have HR5 := Lib.hid (HRN3.out.grows (r := ⟨2, A3, n3, cc3, rr.2⟩) ⟨HN3.out, HF3.out⟩ ha)
          have HB5 := Lib.hid (ha.below HRN3.out.1 HB3.out HB3.out.size (Nat.le_refl _))
          clear ha hx hm1 hm2))
        go_roundw
        case rel =>
          refine ⟨k + 1, n2 + 1, A5, c5, rs2 ++ [⟨2, A3, n3, cc3, rr.2⟩], HK.out, rfl, by go_num, ?_, by have := HN2.out; omega, HR5.out, HB5.out⟩
          rw [← HM.out, List.map_append]
          have e2 : (⟨2, A3, n3, cc3, rr.2⟩ : RecP).m = rr := by
            show ((2 : UInt8), rr.2) = rr
            rw [← HRR.out]
          rw [List.map_cons, e2]
          rfl
        case measure => have := HK.out; simp [intOf]; omega
      · have hlt' : ¬ (k : Int) < (n : Int) := by omega
        have hkn : k = n := by omega
        subst hkn
        have HMS2 := Lib.hid hms2
        have HRN2 := Lib.hid (hrn2.mono HB0.out.size)
        have HBE := Lib.hid (HB0.out.trans (hbel.mono HB0.out.size))
        clear hms2 hn2 hrn2 hbel
        go_wp2_with fail
        go_ret
        refine ⟨A2, n2, c2', rs2, rfl, ?_, HRN2.out, HBE.out⟩
        rw [HMS2.out, HMS.out]
        unfold recordsF
        simp only [HL.out]
end Go.Proofs.Ytmhgbpgbnfdokaa
