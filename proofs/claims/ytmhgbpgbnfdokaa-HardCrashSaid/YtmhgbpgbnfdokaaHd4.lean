/- The walk of package hard's Play: what records tell. -/
import Derived.Test.YtmhgbpgbnfdokaaHd3
namespace Go.Proofs.Ytmhgbpgbnfdokaa
open Go.RowKit

theorem playR_len {s s' : StP} {r : RecM} (h : playR s r = some s') : s'.es.length ≤ s.es.length + 1 := by
  unfold playR at h
  split at h
  · simp only at h
    split at h
    · injection h with h
      subst h
      simp
    · cases h
  · split at h
    · simp only at h
      split at h
      · injection h with h
        subst h
        simp only [List.length_append, List.length_take, List.length_cons, List.length_nil]
        omega
      · cases h
    · cases h
theorem play_take {ms : List RecM} {s : StP} {k : Nat} (hk : k < ms.length) (h : playL play0 (ms.take k) = some s) : playL play0 (ms.take (k + 1)) = playR s ms[k] := by
  rw [List.take_succ_eq_append_getElem hk, playL_snoc, h]
  rfl

/-- what Play answers -/
def PlayAns (w : World) (o : Option StP) (e : Ending) (w' : World) : Prop :=
  Below w.heap.size w w' ∧ match o with
  | none => e = .returned (.tuple #[.agg #[.int .i64 0, .int .i64 0, .slice none 0 0], .int .i64 2])
  | some s => ∃ A n c, e = .returned (.tuple #[.agg #[.int .i64 s.t, .int .i64 s.v, .slice A n c], .int .i64 0]) ∧ s.es.length = n ∧ FreeN 2 w' w.heap.size 73 A n c (ecs s.es)

set_option maxRecDepth 100000 in
set_option maxHeartbeats 800000 in
/-- hard.Play -/
theorem Play_any (A : Option Addr) (n c : Nat) (rs : List RecP) (w : World) (hs : Recs w w.heap.size A rs) (hl : rs.length = n) (hn : n ≤ 1073741824) (hr : ∀ r ∈ rs, r.n ≤ 1073741824) :
    Calls Try.prog 11 #[.slice A n c] w (PlayAns w (playF (rs.map RecP.m))) := by
  have HO : ∃ o, playF (rs.map RecP.m) = o := ⟨_, rfl⟩
  obtain ⟨o, ho⟩ := HO
  rw [ho]
  have HO := Lib.hid ho
  have hA := Blk.new w 25 #[.int .i64 0, .int .i64 0, .slice none 0 0]
  have hb0 := (Below.refl w.heap.size w).alloc (Nat.le_refl _) (.cells #[.int .i64 0, .int .i64 0, .slice none 0 0] 25)
  have hs0 : Recs (w.alloc (.cells #[.int .i64 0, .int .i64 0, .slice none 0 0] 25)) w.heap.size A rs := hs.below hb0
  have hsz : (w.alloc (.cells #[.int .i64 0, .int .i64 0, .slice none 0 0] 25)).heap.size = w.heap.size + 1 := by simp
  clear ho hs
  go_enter Try.func11, Try.ntmps11
  go_wp2_with fail
  generalize w.alloc (.cells #[.int .i64 0, .int .i64 0, .slice none 0 0] 25) = w0 at *
  have hst : StW (w0.alloc (.cells #[.int .i64 0, .int .i64 (-1), .slice none 0 0] 25)) w0.heap.size w0.heap.size play0 := ⟨none, 0, Blk.new w0 _ _, Nat.le_refl _, FreeN.nil _ _ _ _⟩
  have hb1 := (Below.refl w0.heap.size w0).alloc (Nat.le_refl _) (.cells #[.int .i64 0, .int .i64 (-1), .slice none 0 0] 25)
  generalize w0.alloc (.cells #[.int .i64 0, .int .i64 (-1), .slice none 0 0] 25) = w1 at *
  have HA := Lib.hid hA
  have HB0 := Lib.hid hb0
  have HS0 := Lib.hid hs0
  have HSZ := Lib.hid hsz
  rw [← hsz]
  have HL := Lib.hid hl
  have HR := Lib.hid hr
  clear hA hb0 hs0 hsz hl hr
  go_loopw [10] (fun iv wr => ∃ (k : Nat) (s : StP), k ≤ n ∧ iv = .int .i64 (k : Int) ∧ playL play0 ((rs.map RecP.m).take k) = some s ∧ s.es.length ≤ k ∧ StW wr w0.heap.size w0.heap.size s ∧ Below w0.heap.size w0 wr) (fun iv _ => n - (intOf iv).toNat)
  case atStart => exact ⟨0, play0, Nat.zero_le _, rfl, rfl, Nat.le_refl _, hst, hb1⟩
  case round =>
    obtain ⟨k, s, hk, rfl, hps, hsk, hsw, hbel⟩ := hrel
    clear hst hb1
    by_cases hlt : k < n
    · have hkr : k < rs.length := by have := HL.out; omega
      have hkm : k < (rs.map RecP.m).length := by rw [List.length_map]; exact hkr
      have hpt := play_take hkm hps
      have hmm : (rs.map RecP.m)[k] = (rs[k].k, rs[k].l) := by rw [List.getElem_map]; rfl
      rw [hmm] at hpt
      obtain ⟨b, off, rfl, hbl, d0, d1, hsb⟩ := HS0.out.at_ hkr
      have hrn := HR.out rs[k] (List.getElem_mem hkr)
      have hbl0 : b < w0.heap.size := by have := HSZ.out; omega
      have d0' := (hbel.cell (p := ⟨b, off + k * 2, none⟩) hbl0).trans d0
      have d1' := (hbel.cell (p := ⟨b, off + k * 2 + 1, none⟩) hbl0).trans d1
      have hsb' : Sees wr wr.heap.size rs[k].A rs[k].n (cbs rs[k].l) := (hsb.keep (fun p hp => hbel.cell (by have := HSZ.out; omega))).more (by have := HSZ.out; have := hbel.size; omega)
      have hlt' : (k : Int) < (n : Int) := by omega
      clear d0 d1 hsb hbl hbl0 hmm hkm hps
      generalize rs[k].k = kx at *
      generalize rs[k].A = Ax at *
      generalize rs[k].n = nx at *
      generalize rs[k].c = cx at *
      generalize rs[k].l = lx at *
      unfold cb at d0'
      have hsx := hsb'.past (.cells #[.int .u8 (kx.toNat : Int), .slice Ax nx cx] 29)
      have hbx := (Below.refl wr.heap.size wr).alloc (Nat.le_refl _) (.cells #[.int .u8 (kx.toNat : Int), .slice Ax nx cx] 29)
      have hx := Blk.new wr 29 #[.int .u8 (kx.toNat : Int), .slice Ax nx cx]
      have e0 : (wr.alloc (.cells #[.int .u8 (kx.toNat : Int), .slice Ax nx cx] 29)).cell? ⟨wr.heap.size, 0, none⟩ = some (.int .u8 (kx.toNat : Int)) := by rw [hx.cell]; rfl
      have e1 : (wr.alloc (.cells #[.int .u8 (kx.toNat : Int), .slice Ax nx cx] 29)).cell? ⟨wr.heap.size, 1, none⟩ = some (.slice Ax nx cx) := by rw [hx.cell]; rfl
      have HSX := Lib.hid hsx
      have HSW := Lib.hid (hsw.on hbx)
      have HBX := Lib.hid (hbel.trans (hbx.mono hbel.size))
      have HPT := Lib.hid hpt
      have HSK := Lib.hid hsk
      have HK := Lib.hid (show k < n from hlt)
      clear hsb' hsx hbx hx hsw hbel hpt hsk hlt hk
      obtain ⟨o2, ho2⟩ : ∃ o2, playR s (kx, lx) = o2 := ⟨_, rfl⟩
      have HO2 := Lib.hid ho2
      clear ho2
      go_wp2_with fail
      refine (play_any w0.heap.size w0.heap.size s kx Ax nx cx lx o2 HO2.out _ HSW.out HSX.out hrn (by have := HBX.out.size; exact this) (by have := HSK.out; have := HK.out; omega)).mono ?_
      rintro e w3 ⟨rfl, hst3, hb3⟩
      have HB3 := Lib.hid (HBX.out.trans hb3)
      have HST3 := Lib.hid hst3
      clear hb3 hst3 e0 e1 d0' d1'
      cases o2 with
      | none =>
        have hno : o = none := by
          rw [← HO.out]
          unfold playF
          rw [playL_none play0 _ (k + 1) (by rw [HPT.out, HO2.out])]
          rfl
        subst hno
        have hA3 := HA.out.below HB3.out HA.out.lt
        have d0 : w3.cell? ⟨w.heap.size, 0, none⟩ = some (.int .i64 0) := by rw [hA3.cell]; rfl
        have d1 : w3.cell? ⟨w.heap.size, 1, none⟩ = some (.int .i64 0) := by rw [hA3.cell]; rfl
        have d2 : w3.cell? ⟨w.heap.size, 2, none⟩ = some (.slice none 0 0) := by rw [hA3.cell]; rfl
        have f0 := hA3.frozen 0
        have f1 := hA3.frozen 1
        have f2 := hA3.frozen 2
        have HA4 := Lib.hid (((hA3.set_ 0 (.int .i64 0)).set_ 1 (.int .i64 0)).set_ 2 (.slice none 0 0))
        have HBF := Lib.hid (((((HB0.out.trans (HB3.out.mono HB0.out.size)).setCell (p := ⟨w.heap.size, 0, none⟩) (Nat.le_refl _) (.int .i64 0)).setCell (p := ⟨w.heap.size, 1, none⟩) (Nat.le_refl _) (.int .i64 0)).setCell (p := ⟨w.heap.size, 2, none⟩) (Nat.le_refl _) (.slice none 0 0)))
        clear hA3 HST3
        go_wp2_with fail
        (try simp only [Exit.inBlock, Exit.then])
        refine bodyPost_ret (results_row2 rfl _ _ w.heap.size 25 #[.int .i64 0, .int .i64 0, .slice none 0 0] _ rfl HA4.out Try.underlying25 rfl st_size) rfl ?_
        exact ⟨HBF.out, rfl⟩
      | some s2 =>
        have hst4 := HST3.out rfl
        simp only [Option.getD_some] at hst4
        have HST4 := Lib.hid hst4
        clear hst4
        go_wp2_with fail
        go_roundw
        case rel => exact ⟨k + 1, s2, HK.out, by go_num, by rw [HPT.out, HO2.out], by have := playR_len HO2.out; have := HSK.out; omega, HST4.out, HB3.out⟩
        case measure => have := HK.out; simp [intOf]; omega
    · have hlt' : ¬ (k : Int) < (n : Int) := by omega
      have hkn : k = n := by omega
      have hps2 : playL play0 (rs.map RecP.m) = some s := by
        rw [← hps, List.take_of_length_le (by rw [List.length_map]; have := HL.out; omega)]
      have hoo : o = if rightS s then some s else none := by
        rw [← HO.out]
        unfold playF
        rw [hps2]
        rfl
      have HOO := Lib.hid hoo
      obtain ⟨A3, c3, hbk, _, hf⟩ := hsw
      have c0 : wr.cell? ⟨w0.heap.size, 0, none⟩ = some (.int .i64 s.t) := by rw [hbk.cell]; rfl
      have c1 : wr.cell? ⟨w0.heap.size, 1, none⟩ = some (.int .i64 s.v) := by rw [hbk.cell]; rfl
      have c2 : wr.cell? ⟨w0.heap.size, 2, none⟩ = some (.slice A3 s.es.length c3) := by rw [hbk.cell]; rfl
      have HRI := Lib.hid (right_any s A3 s.es.length c3 wr hf.sees rfl (by omega))
      have HBK := Lib.hid hbk
      have HF := Lib.hid hf
      have HBEL := Lib.hid hbel
      clear hbk hf hbel hps hps2 hoo hk hlt hsk hkn
      go_wp2_with fail
      refine HRI.out.mono ?_
      rintro e w4 ⟨rfl, hb4⟩
      have HB4 := Lib.hid (HBEL.out.trans (hb4.mono HBEL.out.size))
      have hbk4 := HBK.out.below hb4 HBK.out.lt
      have HF4 := Lib.hid (HF.out.on hb4)
      have hA4 := HA.out.below HB4.out HA.out.lt
      have d0 : w4.cell? ⟨w.heap.size, 0, none⟩ = some (.int .i64 0) := by rw [hA4.cell]; rfl
      have d1 : w4.cell? ⟨w.heap.size, 1, none⟩ = some (.int .i64 0) := by rw [hA4.cell]; rfl
      have d2 : w4.cell? ⟨w.heap.size, 2, none⟩ = some (.slice none 0 0) := by rw [hA4.cell]; rfl
      have f0 := hA4.frozen 0
      have f1 := hA4.frozen 1
      have f2 := hA4.frozen 2
      have c0 : w4.cell? ⟨w0.heap.size, 0, none⟩ = some (.int .i64 s.t) := by rw [hbk4.cell]; rfl
      have c1 : w4.cell? ⟨w0.heap.size, 1, none⟩ = some (.int .i64 s.v) := by rw [hbk4.cell]; rfl
      have c2 : w4.cell? ⟨w0.heap.size, 2, none⟩ = some (.slice A3 s.es.length c3) := by rw [hbk4.cell]; rfl
      have HA4 := Lib.hid hA4
      have HBB := Lib.hid (HB0.out.trans (HB4.out.mono HB0.out.size))
      clear hb4 hbk4 hA4
      cases hri : rightS s with
      | false =>
        have hno : o = none := by rw [HOO.out, hri]; rfl
        subst hno
        have HA5 := Lib.hid (((HA4.out.set_ 0 (.int .i64 0)).set_ 1 (.int .i64 0)).set_ 2 (.slice none 0 0))
        have HBF := Lib.hid ((((HBB.out.setCell (p := ⟨w.heap.size, 0, none⟩) (Nat.le_refl _) (.int .i64 0)).setCell (p := ⟨w.heap.size, 1, none⟩) (Nat.le_refl _) (.int .i64 0)).setCell (p := ⟨w.heap.size, 2, none⟩) (Nat.le_refl _) (.slice none 0 0)))
        clear hri HOO HO
        go_wp2_with fail
        (try simp only [Exit.inBlock, Exit.then])
        refine bodyPost_ret (results_row2 rfl _ _ w.heap.size 25 #[.int .i64 0, .int .i64 0, .slice none 0 0] _ rfl HA5.out Try.underlying25 rfl st_size) rfl ?_
        exact ⟨HBF.out, rfl⟩
      | true =>
        have hno : o = some s := by rw [HOO.out, hri]; rfl
        subst hno
        have HA5 := Lib.hid (((HA4.out.set_ 0 (.int .i64 s.t)).set_ 1 (.int .i64 s.v)).set_ 2 (.slice A3 s.es.length c3))
        have HBF := Lib.hid ((((HBB.out.setCell (p := ⟨w.heap.size, 0, none⟩) (Nat.le_refl _) (.int .i64 s.t)).setCell (p := ⟨w.heap.size, 1, none⟩) (Nat.le_refl _) (.int .i64 s.v)).setCell (p := ⟨w.heap.size, 2, none⟩) (Nat.le_refl _) (.slice A3 s.es.length c3)))
        have hne : ∀ q, foot A3 c3 = some q → q ≠ w.heap.size := fun q hq e => by
          obtain ⟨h9, _⟩ := HF4.out.foot_at q hq
          have := HSZ.out
          omega
        have HF5 := Lib.hid ((((HF4.out.far (p := ⟨w.heap.size, 0, none⟩) hne (.int .i64 s.t)).far (p := ⟨w.heap.size, 1, none⟩) hne (.int .i64 s.v)).far (p := ⟨w.heap.size, 2, none⟩) hne (.slice A3 s.es.length c3)).mono (base' := w.heap.size) HB0.out.size)
        clear hri HOO HO hne
        go_wp2_with fail
        (try simp only [Exit.inBlock, Exit.then])
        refine bodyPost_ret (results_row2 rfl _ _ w.heap.size 25 #[.int .i64 s.t, .int .i64 s.v, .slice A3 s.es.length c3] _ rfl HA5.out Try.underlying25 rfl st_size) rfl ?_
        exact ⟨HBF.out, A3, s.es.length, c3, rfl, rfl, HF5.out⟩
end Go.Proofs.Ytmhgbpgbnfdokaa
