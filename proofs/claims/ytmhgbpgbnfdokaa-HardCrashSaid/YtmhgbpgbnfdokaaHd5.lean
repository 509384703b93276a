/- The walks of package hard's records: hardRecord, entryRecord, Records. -/
import Derived.Test.YtmhgbpgbnfdokaaHd4
import Derived.Test.YtmhgbpgbnfdokaaW2n
import Derived.Deep.RegionWith
import Derived.Deep.DeepCutAuto
namespace Go.Proofs.Ytmhgbpgbnfdokaa
open Go.RowKit

theorem rec_size : (Try.prog.info? 29).map (·.size) = some 2 := by kernel_rfl
/-- what makes a record answers -/
def RecRet (w : World) (r : RecM) (e : Ending) (w' : World) : Prop :=
  ∃ A n c, e = .returned (.agg #[.int .u8 (r.1.toNat : Int), .slice A n c]) ∧ r.2.length = n ∧ Free w' w.heap.size 5 A n c (cbs r.2) ∧ Below w.heap.size w w'
theorem free_far8 {w : World} {base g n c : Nat} {A : Option Addr} {xs : List Value} {cs : Array Value} {T : TypeId} (hb : Blk w g T cs) (hT : T ≠ 5) (h : Free w base 5 A n c xs) (i : Nat) (u : Value) : Free (w.setCell ⟨g, i, none⟩ u) base 5 A n c xs := by
  by_cases hc : 0 < c
  · refine h.far (fun a ha _ e => ?_) u
    obtain ⟨g', off, cur, hA, _, hB, _⟩ := h.2.2.2 hc
    rw [hA] at ha
    injection ha with ha
    subst ha
    simp only at e
    subst e
    exact hT (hb.type_eq hB)
  · exact ⟨h.1, h.2.1, h.2.2.1, fun hp => absurd hp hc⟩
theorem intB_length (m : Int) : (intB m).length = 8 := by simp [intB]

set_option maxRecDepth 100000 in
set_option maxHeartbeats 800000 in
/-- hard.hardRecord -/
theorem hardRecord_any (t v : Int) (w : World) :
    Calls Try.prog 45 #[.int .i64 t, .int .i64 v] w (RecRet w (hardR t v)) := by
  have hA := Blk.new w 29 #[.int .u8 0, .slice none 0 0]
  have hb0 := (Below.refl w.heap.size w).alloc (Nat.le_refl _) (.cells #[.int .u8 0, .slice none 0 0] 29)
  go_enter Try.func45, Try.ntmps45
  go_wp2_with fail
  generalize w.alloc (.cells #[.int .u8 0, .slice none 0 0] 29) = w0 at *
  refine (int_new none 0 0 [] t w0 (Sees.none_ _ _ _) (by omega)).mono ?_
  rintro e w1 ⟨A1, c1, rfl, hf1, hb1⟩
  have HA1 := Lib.hid (hA.below hb1 hA.lt)
  have HB1 := Lib.hid (bthen hb0 hb1)
  have hs1 := hf1.sees
  have HBZ := Lib.hid hb1.size
  clear hA hb0 hb1 hf1
  go_wp2_with fail
  refine (int_new A1 _ c1 _ v w1 hs1 (by simp)).mono ?_
  rintro e w2 ⟨A2, c2, rfl, hf2, hb2⟩
  have hl2 : ([] ++ be (u64n t) 8 ++ be (u64n v) 8 : List UInt8) = intB t ++ intB v := by simp [intB]
  rw [hl2] at hf2 ⊢
  have hA2 := HA1.out.below hb2 HA1.out.lt
  have HB2 := Lib.hid (bthen HB1.out hb2)
  have d0 : w2.cell? ⟨w.heap.size, 0, none⟩ = some (.int .u8 0) := by rw [hA2.cell]; rfl
  have d1 : w2.cell? ⟨w.heap.size, 1, none⟩ = some (.slice none 0 0) := by rw [hA2.cell]; rfl
  have f0 := hA2.frozen 0
  have f1 := hA2.frozen 1
  generalize hNN : (intB t ++ intB v).length = N at *
  have HA3 := Lib.hid ((hA2.set_ 0 (.int .u8 1)).set_ 1 (.slice A2 N c2))
  have HBF := Lib.hid ((HB2.out.setCell (p := ⟨w.heap.size, 0, none⟩) (Nat.le_refl _) (.int .u8 1)).setCell (p := ⟨w.heap.size, 1, none⟩) (Nat.le_refl _) (.slice A2 N c2))
  have HF3 := Lib.hid ((free_far8 (hA2.set_ 0 (.int .u8 1)) (by decide) (free_far8 hA2 (by decide) hf2 0 (.int .u8 1)) 1 (.slice A2 N c2)).mono (base' := w.heap.size) HB1.out.size)
  have HNN := Lib.hid hNN
  clear hs1 hA2 hl2 hf2 hb2 hNN
  go_wp2_with fail
  (try simp only [Exit.inBlock, Exit.then])
  refine bodyPost_ret (results_cell_row rfl _ _ w.heap.size 29 #[.int .u8 1, .slice A2 N c2] (0, 0) _ rfl HA3.out Try.underlying29 rfl rec_size) rfl ?_
  exact ⟨A2, N, c2, rfl, HNN.out, HF3.out, HBF.out⟩

set_option maxRecDepth 100000 in
set_option maxHeartbeats 800000 in
/-- hard.entryRecord -/
theorem entryRecord_any (i : Int) (x : Ent) (w : World) (hx : x.s.size ≤ 65535) :
    Calls Try.prog 46 #[.int .i64 i, .agg #[.int .i64 x.t, .string x.s]] w (RecRet w (entR i x)) := by
  have hE := Blk.new w 73 #[.int .i64 x.t, .string x.s]
  have hb0 := (Below.refl w.heap.size w).alloc (Nat.le_refl _) (.cells #[.int .i64 x.t, .string x.s] 73)
  have hsz : (w.alloc (.cells #[.int .i64 x.t, .string x.s] 73)).heap.size = w.heap.size + 1 := by simp
  have hR := Blk.new (w.alloc (.cells #[.int .i64 x.t, .string x.s] 73)) 29 #[.int .u8 0, .slice none 0 0]
  rw [hsz] at hR
  have hE2 := hE.alloc (.cells #[.int .u8 0, .slice none 0 0] 29)
  have hb1 := hb0.alloc hb0.size (.cells #[.int .u8 0, .slice none 0 0] 29)
  clear hE hb0 hsz
  go_enter Try.func46, Try.ntmps46
  go_wp2_with fail
  generalize (w.alloc (.cells #[.int .i64 x.t, .string x.s] 73)).alloc (.cells #[.int .u8 0, .slice none 0 0] 29) = w0 at *
  have HE := Lib.hid (fun (W : World) (hW : Below w0.heap.size w0 W) =>
    have hk := hE2.below hW hE2.lt
    (⟨by rw [hk.cell]; rfl, by rw [hk.cell]; rfl⟩ : W.cell? ⟨w.heap.size, 0, none⟩ = some (.int .i64 x.t) ∧ W.cell? ⟨w.heap.size, 1, none⟩ = some (.string x.s)))
  have HR := Lib.hid hR
  have HB := Lib.hid hb1
  obtain ⟨e0, e1⟩ := HE.out w0 (Below.refl _ _)
  clear hE2 hR hb1
  go_cut [5] (fun v wx => ∃ A c, v = .slice A (intB i ++ intB x.t).length c ∧ Free wx w0.heap.size 5 A (intB i ++ intB x.t).length c (cbs (intB i ++ intB x.t)) ∧ Below w0.heap.size w0 wx)
  case first =>
    have HI1 := Lib.hid (fun W => int_new none 0 0 [] i W (Sees.none_ _ _ _) (by omega))
    have HI2 := Lib.hid (fun A n c l W (h : Sees W W.heap.size A n (cbs l)) (hn : n ≤ 1073741824) => int_new A n c l x.t W h hn)
    go_region_with (first
      | (go_at_call 69; (with_reducible refine (HI1.out _).mono ?_); rintro e w1 ⟨A1, c1, rfl, hf1, hb1⟩; have hbw1 : Below w0.heap.size w0 w1 := (Below.refl w0.heap.size w0).drew.trans hb1; have hs1 : Sees w1 w1.heap.size A1 8 (cbs (be (u64n i) 8)) := (by have h9 := hf1.sees; simpa using h9); obtain ⟨g0, g1⟩ := HE.out w1 hbw1)
      | (go_at_call 69; (with_reducible refine (HI2.out A1 8 c1 (be (u64n i) 8) w1 hs1 (by omega)).mono ?_); rintro e w2 ⟨A2, c2, rfl, hf2, hb2⟩; have hbw2 : Below w0.heap.size w0 w2 := bthen hbw1 hb2))
    all_goals
      go_wp2_with fail
      go_meet
      exact ⟨A2, c2, by simp [intB], hf2.mono hbw1.size, hbw2⟩
  case rest =>
    obtain ⟨A3, c3, rfl, hf3, hb3⟩ := hcut
    obtain ⟨e0, e1⟩ := HE.out _ hb3
    have hl16 : (intB i ++ intB x.t).length = 16 := by simp [intB]
    have hs3 := hf3.sees
    rw [hl16] at hs3 ⊢
    have HB3 := Lib.hid hb3
    have HR3 := Lib.hid (HR.out.below hb3 HR.out.lt)
    clear hf3 hb3 hl16
    go_wp2_with fail
    refine (text_new A3 16 c3 (intB i ++ intB x.t) x.s wc hs3 (by omega) hx).mono ?_
    rintro e w4 ⟨A4, c4, rfl, hf4, hb4⟩
    have hR4 := HR3.out.below hb4 HR3.out.lt
    have HB4 := Lib.hid ((HB.out.trans (HB3.out.mono HB.out.size)).trans (hb4.mono (by have h8 := HB.out.size; have h9 := HB3.out.size; omega)))
    have hzz : w.heap.size ≤ wc.heap.size := by have h8 := HB.out.size; have h9 := HB3.out.size; omega
    have d0 : w4.cell? ⟨w.heap.size + 1, 0, none⟩ = some (.int .u8 0) := by rw [hR4.cell]; rfl
    have d1 : w4.cell? ⟨w.heap.size + 1, 1, none⟩ = some (.slice none 0 0) := by rw [hR4.cell]; rfl
    have f0 := hR4.frozen 0
    have f1 := hR4.frozen 1
    generalize hNN : (intB i ++ intB x.t ++ textBytes x.s).length = N at *
    have HA3 := Lib.hid ((hR4.set_ 0 (.int .u8 2)).set_ 1 (.slice A4 N c4))
    have HBF := Lib.hid ((HB4.out.setCell (p := ⟨w.heap.size + 1, 0, none⟩) (Nat.le_succ _) (.int .u8 2)).setCell (p := ⟨w.heap.size + 1, 1, none⟩) (Nat.le_succ _) (.slice A4 N c4))
    have HF3 := Lib.hid ((free_far8 (hR4.set_ 0 (.int .u8 2)) (by decide) (free_far8 hR4 (by decide) hf4 0 (.int .u8 2)) 1 (.slice A4 N c4)).mono (base' := w.heap.size) hzz)
    have HNN := Lib.hid hNN
    clear hs3 hR4 hf4 hb4 hNN hzz
    go_wp2_with fail
    (try simp only [Exit.inBlock, Exit.then])
    refine bodyPost_ret (results_cell_row rfl _ _ (w.heap.size + 1) 29 #[.int .u8 2, .slice A4 N c4] (0, 0) _ rfl HA3.out Try.underlying29 rfl rec_size) rfl ?_
    exact ⟨A4, N, c4, rfl, HNN.out, HF3.out, HBF.out⟩
end Go.Proofs.Ytmhgbpgbnfdokaa
