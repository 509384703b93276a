/- The walk of package hard's Recover: what a disk tells. -/
import Derived.Test.YtmhgbpgbnfdokaaHd8
namespace Go.Proofs.Ytmhgbpgbnfdokaa
open Go.RowKit

theorem recsB_ge (rs : List RecM) : rs.length ≤ (recsB rs).length := by
  induction rs with
  | nil => exact Nat.le_refl _
  | cons r rs ih =>
    rw [recsB_cons, List.length_append, recB_length]
    simp only [List.length_cons]
    omega
theorem readB_few (b : List UInt8) : (readB b).1.length ≤ b.length := by
  obtain ⟨h1, h2, _⟩ := readB_inv _ b (Nat.le_refl _)
  have h3 := recsB_ge (readB b).1
  rw [← h2, List.length_take] at h3
  omega
theorem Dsk.st {w : World} {base g s q i : Nat} {all : List UInt8} {cs : Array Value} (h : Dsk w base g all s) (hq : Blk w q 25 cs) (u : Value) : Dsk (w.setCell ⟨q, i, none⟩ u) base g all s := by
  obtain ⟨A, c, h1, h2, h3, h4⟩ := h
  have hgq : g ≠ q := fun e => by
    subst e
    unfold Blk at h1 hq
    rw [h1] at hq
    injection hq with hq
    injection hq with _ ht
    exact absurd ht (by decide)
  refine ⟨A, c, (Below.heap_setCell w ⟨q, i, none⟩ u g hgq).trans h1, h2, ?_, h4⟩
  by_cases hc : 0 < c
  · refine h3.far (fun a ha _ e => ?_) u
    obtain ⟨g', off, cur, hA, _, hB, _⟩ := h3.2.2.2 hc
    rw [hA] at ha
    injection ha with ha
    subst ha
    simp only at e
    subst e
    unfold Blk at hB hq
    rw [hB] at hq
    injection hq with hq
    injection hq with _ ht
    exact absurd ht (by decide)
  · exact ⟨h3.1, h3.2.1, h3.2.2.1, fun hp => absurd hp hc⟩

/-- what Play answers, but for the memory -/
def PlayOut (base : Nat) (o : Option StP) (e : Ending) (w' : World) : Prop := match o with
  | none => e = .returned (.tuple #[.agg #[.int .i64 0, .int .i64 0, .slice none 0 0], .int .i64 2])
  | some s => ∃ A n c, e = .returned (.tuple #[.agg #[.int .i64 s.t, .int .i64 s.v, .slice A n c], .int .i64 0]) ∧ s.es.length = n ∧ FreeN 2 w' base 73 A n c (ecs s.es)

set_option maxRecDepth 100000 in
set_option maxHeartbeats 800000 in
/-- hard.Recover, of what is spoilt -/
theorem hrecover_bad (base g s : Nat) (all : List UInt8) (w : World) (h : Dsk w base g all s) (hall : all.length ≤ 1048576) (hlt : (readB all).2.1 < s) :
    Calls Try.prog 25 #[.pointer (some ⟨g, 0, none⟩)] w fun e w' => e = .returned (.tuple #[.agg #[.int .i64 0, .int .i64 0, .slice none 0 0], .int .i64 3]) ∧ Dsk w' base g all s ∧ Below w.heap.size w w' := by
  have hA := Blk.new w 25 #[.int .i64 0, .int .i64 0, .slice none 0 0]
  have hb0 := (Below.refl w.heap.size w).alloc (Nat.le_refl _) (.cells #[.int .i64 0, .int .i64 0, .slice none 0 0] 25)
  have HR := Lib.hid (wrecover_bad base g s all _ (h.on hb0) hall hlt)
  have HA := Lib.hid hA
  have HB0 := Lib.hid hb0
  clear hA hb0 h hlt
  go_enter Try.func25, Try.ntmps25
  go_wp2_with fail
  generalize w.alloc (.cells #[.int .i64 0, .int .i64 0, .slice none 0 0] 25) = w0 at *
  refine HR.out.mono ?_
  rintro e w3 ⟨rfl, hd3, hb3⟩
  have hA3 := HA.out.below hb3 HA.out.lt
  have d0 : w3.cell? ⟨w.heap.size, 0, none⟩ = some (.int .i64 0) := by rw [hA3.cell]; rfl
  have d1 : w3.cell? ⟨w.heap.size, 1, none⟩ = some (.int .i64 0) := by rw [hA3.cell]; rfl
  have d2 : w3.cell? ⟨w.heap.size, 2, none⟩ = some (.slice none 0 0) := by rw [hA3.cell]; rfl
  have f0 := hA3.frozen 0
  have f1 := hA3.frozen 1
  have f2 := hA3.frozen 2
  have HA4 := Lib.hid (((hA3.set_ 0 (.int .i64 0)).set_ 1 (.int .i64 0)).set_ 2 (.slice none 0 0))
  have HBF := Lib.hid (((((HB0.out.trans (hb3.mono HB0.out.size)).setCell (p := ⟨w.heap.size, 0, none⟩) (Nat.le_refl _) (.int .i64 0)).setCell (p := ⟨w.heap.size, 1, none⟩) (Nat.le_refl _) (.int .i64 0)).setCell (p := ⟨w.heap.size, 2, none⟩) (Nat.le_refl _) (.slice none 0 0)))
  have HDF := Lib.hid (((hd3.st (i := 0) hA3 (.int .i64 0)).st (i := 1) (hA3.set_ 0 (.int .i64 0)) (.int .i64 0)).st (i := 2) ((hA3.set_ 0 (.int .i64 0)).set_ 1 (.int .i64 0)) (.slice none 0 0))
  clear hA3 hd3 hb3
  go_wp2_with fail
  (try simp only [Exit.inBlock, Exit.then])
  refine bodyPost_ret (results_row2 rfl _ _ w.heap.size 25 #[.int .i64 0, .int .i64 0, .slice none 0 0] _ rfl HA4.out Try.underlying25 rfl st_size) rfl ?_
  exact ⟨rfl, HDF.out, HBF.out⟩

set_option maxRecDepth 100000 in
set_option maxHeartbeats 800000 in
/-- hard.Recover, of what isn't -/
theorem hrecover_any (base g s : Nat) (all : List UInt8) (w : World) (h : Dsk w base g all s) (hz : base ≤ w.heap.size) (hall : all.length ≤ 1048576) (hlt : s ≤ (readB all).2.1) :
    Calls Try.prog 25 #[.pointer (some ⟨g, 0, none⟩)] w fun e w' => PlayOut w.heap.size (playF (readB all).1) e w' ∧ Dsk w' base g (all.take (readB all).2.1) (readB all).2.1 ∧ Below base w w' := by
  have hA := Blk.new w 25 #[.int .i64 0, .int .i64 0, .slice none 0 0]
  have hb0 := (Below.refl w.heap.size w).alloc (Nat.le_refl _) (.cells #[.int .i64 0, .int .i64 0, .slice none 0 0] 25)
  have HR := Lib.hid (wrecover_any base g s all _ (h.on hb0) (Nat.le_trans hz hb0.size) hall hlt)
  have HG := Lib.hid h.lt
  have HA := Lib.hid hA
  have HB0 := Lib.hid hb0
  have HZ := Lib.hid hz
  have hfew := readB_few all
  have hrt := (readB_inv _ all (Nat.le_refl _)).2.2
  have hsz : (w.alloc (.cells #[.int .i64 0, .int .i64 0, .slice none 0 0] 25)).heap.size = w.heap.size + 1 := by simp
  generalize readB all = R at *
  obtain ⟨ms, en, er⟩ := R
  simp only at hfew hrt HR ⊢
  obtain ⟨o, ho⟩ : ∃ o, playF ms = o := ⟨_, rfl⟩
  rw [ho]
  have HO := Lib.hid ho
  clear ho
  have HMS := Lib.hid (show ms.length ≤ 1048576 ∧ ∀ r ∈ ms, r.2.length ≤ 1073741824 from ⟨by omega, fun r hr => by have := (hrt r hr).2; omega⟩)
  have HSZ := Lib.hid hsz
  clear hA hb0 h hlt hz hfew hrt hall hsz
  go_enter Try.func25, Try.ntmps25
  go_wp2_with fail
  generalize w.alloc (.cells #[.int .i64 0, .int .i64 0, .slice none 0 0] 25) = w0 at *
  refine HR.out.mono ?_
  rintro e w2 ⟨A, c, rs, rfl, hms, hrf, hd2, hb2, hg2⟩
  have hrn : ∀ r ∈ rs, r.n ≤ 1073741824 := fun r hr => by
    have h1 := HMS.out.2 r.m (by rw [← hms]; exact List.mem_map_of_mem hr)
    have h2 := (hrf.2 r hr).1
    rw [cbs_length] at h2
    simp only [RecP.m] at h1
    omega
  have hrl : rs.length ≤ 1073741824 := by
    have h1 := HMS.out.1
    rw [← hms, List.length_map] at h1
    omega
  have HP := Lib.hid (Play_any A rs.length c rs w2 hrf.recs rfl hrl hrn)
  rw [hms] at HP
  have HA2 := Lib.hid (HA.out.grown hg2 (fun e => by injection e with e; have := HG.out; omega))
  have HD2 := Lib.hid hd2
  have HB2 := Lib.hid ((HB0.out.mono HZ.out).trans hb2)
  have HLT := Lib.hid (show w.heap.size < w2.heap.size by have := HSZ.out; have := hb2.size; omega)
  clear hms hrf hd2 hb2 hg2 hrn hrl HR
  generalize rs.length = n at *
  rw [HO.out] at HP
  go_wp2_with fail
  refine HP.out.mono ?_
  rintro e w3 ⟨hb3, ho⟩
  have hA3 := HA2.out.below hb3 HA2.out.lt
  have d0 : w3.cell? ⟨w.heap.size, 0, none⟩ = some (.int .i64 0) := by rw [hA3.cell]; rfl
  have d1 : w3.cell? ⟨w.heap.size, 1, none⟩ = some (.int .i64 0) := by rw [hA3.cell]; rfl
  have d2 : w3.cell? ⟨w.heap.size, 2, none⟩ = some (.slice none 0 0) := by rw [hA3.cell]; rfl
  have f0 := hA3.frozen 0
  have f1 := hA3.frozen 1
  have f2 := hA3.frozen 2
  have hd3 := HD2.out.on hb3
  have hbe := HB2.out.trans (hb3.mono (Nat.le_trans HZ.out (Nat.le_of_lt HLT.out)))
  cases o with
  | none =>
    simp only at ho
    subst ho
    have HA4 := Lib.hid (((hA3.set_ 0 (.int .i64 0)).set_ 1 (.int .i64 0)).set_ 2 (.slice none 0 0))
    have HBF := Lib.hid (((hbe.setCell (p := ⟨w.heap.size, 0, none⟩) HZ.out (.int .i64 0)).setCell (p := ⟨w.heap.size, 1, none⟩) HZ.out (.int .i64 0)).setCell (p := ⟨w.heap.size, 2, none⟩) HZ.out (.slice none 0 0))
    have HDF := Lib.hid (((hd3.st (i := 0) hA3 (.int .i64 0)).st (i := 1) (hA3.set_ 0 (.int .i64 0)) (.int .i64 0)).st (i := 2) ((hA3.set_ 0 (.int .i64 0)).set_ 1 (.int .i64 0)) (.slice none 0 0))
    clear hA3 hd3 hb3 hbe HP
    go_wp2_with fail
    (try simp only [Exit.inBlock, Exit.then])
    refine bodyPost_ret (results_row2 rfl _ _ w.heap.size 25 #[.int .i64 0, .int .i64 0, .slice none 0 0] _ rfl HA4.out Try.underlying25 rfl st_size) rfl ?_
    exact ⟨rfl, HDF.out, HBF.out⟩
  | some st =>
    obtain ⟨t, v, es⟩ := st
    simp only at ho
    obtain ⟨A3, n3, c3, rfl, hn3, hf3⟩ := ho
    have hfar : ∀ k, foot A3 c3 = some k → k ≠ w.heap.size := fun k hk => by have := (hf3.foot_at k hk).1; have := HLT.out; omega
    have HF := Lib.hid ((((hf3.mono (base' := w.heap.size) (Nat.le_of_lt HLT.out)).far (p := ⟨w.heap.size, 0, none⟩) hfar (.int .i64 t)).far (p := ⟨w.heap.size, 1, none⟩) hfar (.int .i64 v)).far (p := ⟨w.heap.size, 2, none⟩) hfar (.slice A3 n3 c3))
    have HN3 := Lib.hid hn3
    have HA4 := Lib.hid (((hA3.set_ 0 (.int .i64 t)).set_ 1 (.int .i64 v)).set_ 2 (.slice A3 n3 c3))
    have HBF := Lib.hid (((hbe.setCell (p := ⟨w.heap.size, 0, none⟩) HZ.out (.int .i64 t)).setCell (p := ⟨w.heap.size, 1, none⟩) HZ.out (.int .i64 v)).setCell (p := ⟨w.heap.size, 2, none⟩) HZ.out (.slice A3 n3 c3))
    have HDF := Lib.hid (((hd3.st (i := 0) hA3 (.int .i64 t)).st (i := 1) (hA3.set_ 0 (.int .i64 t)) (.int .i64 v)).st (i := 2) ((hA3.set_ 0 (.int .i64 t)).set_ 1 (.int .i64 v)) (.slice A3 n3 c3))
    clear hA3 hd3 hb3 hbe HP hf3 hfar hn3
    go_wp2_with fail
    (try simp only [Exit.inBlock, Exit.then])
    refine bodyPost_ret (results_row2 rfl _ _ w.heap.size 25 #[.int .i64 t, .int .i64 v, .slice A3 n3 c3] _ rfl HA4.out Try.underlying25 rfl st_size) rfl ?_
    exact ⟨⟨A3, n3, c3, rfl, HN3.out, HF.out⟩, HDF.out, HBF.out⟩
end Go.Proofs.Ytmhgbpgbnfdokaa
