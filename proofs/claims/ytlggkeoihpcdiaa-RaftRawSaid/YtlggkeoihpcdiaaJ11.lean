/- The walks of package raft's State. -/
import Derived.Test.YtlggkeoihpcdiaaJ7
namespace Go.Proofs.Ytlggkeoihpcdiaa
open Go.RowKit

/-- a state in new memory is answered -/
def StRet (w : World) (t v : Int) (r : List Ent) (e : Ending) (w' : World) : Prop :=
  ∃ A n c, e = .returned (.agg #[.int .i64 t, .int .i64 v, .slice A n c]) ∧ r.length = n ∧ FreeN 2 w' w.heap.size 73 A n c (ecs r) ∧ Below w.heap.size w w'

/-- a block older than a row -/
theorem free_past {w : World} {b base sz n c : Nat} {e : TypeId} {A : Option Addr} {xs : List Value} (h : FreeN sz w base e A n c xs) (hb : b < base) (i : Nat) (u : Value) : FreeN sz (w.setCell ⟨b, i, none⟩ u) base e A n c xs :=
  h.far (p := ⟨b, i, none⟩) (fun k hk => by have h9 := (h.foot_at k hk).1; simp only; omega) u

set_option maxRecDepth 100000 in
set_option maxHeartbeats 800000 in
/-- (*raft.Node).State -/
theorem nState_any (base g : Nat) (x : NodeM) (S : Nat → Prop) (w : World) (h : NodeAt w base g x S) (hn : 0 < x.n) (hl : x.log.length ≤ 1048576) :
    Calls Try.prog 34 #[.pointer (some ⟨g, 0, none⟩)] w (StRet w x.term x.vote x.log) := by
  obtain ⟨L, hL, _⟩ := h.cell
  have hA := Blk.new w 25 #[.int .i64 0, .int .i64 0, .slice none 0 0]
  have hb0 := (Below.refl w.heap.size w).alloc (Nat.le_refl _) (.cells #[.int .i64 0, .int .i64 0, .slice none 0 0] 25)
  have HMA := Lib.hid (made_any base g x S _ (h.on hb0) hn)
  have HAL := Lib.hid (fun W (hW : Below (w.alloc (.cells #[.int .i64 0, .int .i64 0, .slice none 0 0] 25)).heap.size (w.alloc (.cells #[.int .i64 0, .int .i64 0, .slice none 0 0] 25)) W) => lAll_any base L.gl L.fl x.log W ((hL.on hb0).on hW).log (by omega))
  have HL := Lib.hid (hL.on hb0)
  have HA := Lib.hid hA
  have HB0 := Lib.hid hb0
  have HLT := Lib.hid hA.lt
  clear hL h hn hl hA hb0
  go_enter Try.func34, Try.ntmps34
  go_upto_region 1 with (fail)
  generalize w.alloc (.cells #[.int .i64 0, .int .i64 0, .slice none 0 0] 25) = w0 at *
  go_upto_region 3 with (first | (refine HMA.out.mono ?_; rintro e w2 ⟨rfl, rfl⟩))
  obtain ⟨_, ⟨c4, c5, c6, c7⟩, _⟩ := HL.out.cells
  go_region_with (refine (HAL.out _ (by first | exact (Below.refl _ _).drew | exact Below.refl _ _)).mono ?_
                  rintro e w3 ⟨A, c, rfl, hf, hb⟩
                  have hb1 := Below.trans (by first | exact (Below.refl _ _).drew | exact Below.refl _ _) hb
                  obtain ⟨_, ⟨c4, c5, c6, c7⟩, _⟩ := (HL.out.on hb1).cells
                  have hA3 := HA.out.below hb1 HLT.out
                  have HA4 := Lib.hid (((hA3.set_ 0 (.int .i64 x.term)).set_ 1 (.int .i64 x.vote)).set_ 2 (.slice A x.log.length c))
                  have HF3 := Lib.hid hf
                  have HB3 := Lib.hid (bthen HB0.out hb1)
                  have d0 : w3.cell? ⟨w.heap.size, 0, none⟩ = some (.int .i64 0) := (by rw [hA3.cell]; rfl)
                  have d1 : w3.cell? ⟨w.heap.size, 1, none⟩ = some (.int .i64 0) := (by rw [hA3.cell]; rfl)
                  have d2 : w3.cell? ⟨w.heap.size, 2, none⟩ = some (.slice none 0 0) := (by rw [hA3.cell]; rfl)
                  have f0 := hA3.frozen 0
                  have f1 := hA3.frozen 1
                  have f2 := hA3.frozen 2
                  clear hA3 hf hb1 hb)
  all_goals
    go_wp2_with fail
    refine bodyPost_ret (results_cell_row rfl _ _ w.heap.size 25 #[.int .i64 x.term, .int .i64 x.vote, .slice A x.log.length c] (0, 0) _ rfl HA4.out Try.underlying25 rfl st_size) rfl ?_
    have hff := HF3.out
    have hlt : w.heap.size < w2.heap.size := HLT.out
    have hf1 := free_past (b := w.heap.size) hff hlt 0 (.int .i64 x.term)
    have hf2 := free_past (b := w.heap.size) hf1 hlt 1 (.int .i64 x.vote)
    have hf3 := free_past (b := w.heap.size) hf2 hlt 2 (.slice A x.log.length c)
    have hbb := ((HB3.out.setCell (p := ⟨w.heap.size, 0, none⟩) (Nat.le_refl _) (.int .i64 x.term)).setCell (p := ⟨w.heap.size, 1, none⟩) (Nat.le_refl _) (.int .i64 x.vote)).setCell (p := ⟨w.heap.size, 2, none⟩) (Nat.le_refl _) (.slice A x.log.length c)
    exact ⟨A, x.log.length, c, rfl, rfl, hf3.mono (Nat.le_of_lt hlt), hbb⟩
end Go.Proofs.Ytlggkeoihpcdiaa

/- The walk of package raft's Save. -/
namespace Go.Proofs.Ytlggkeoihpcdiaa
open Go.RowKit

theorem save_size : (Try.prog.info? 41).map (·.size) = some 5 := by kernel_rfl
def savedF (x : NodeM) : NodeM := { x with fresh := false, fr := 0 }
def saveEs (x : NodeM) : List Ent := if 0 < x.fr then fromF x.log x.fr 1024 else []
def saveT (x : NodeM) : Int := if x.fresh then x.term else 0
def saveV (x : NodeM) : Int := if x.fresh then x.vote else 0
def saveOk (x : NodeM) : Bool := x.fresh || decide (x.fr ≠ 0)
def SaveRet (w : World) (base g : Nat) (x : NodeM) (S : Nat → Prop) (e : Ending) (w' : World) : Prop :=
  ∃ A c, e = .returned (.tuple #[.agg #[.bool x.fresh, .int .i64 (saveT x), .int .i64 (saveV x), .int .i64 x.fr, .slice A (saveEs x).length c], .bool (saveOk x)]) ∧ FreeN 2 w' w.heap.size 73 A (saveEs x).length c (ecs (saveEs x)) ∧ NodeAt w' base g (savedF x) S ∧ Turn S w w'
theorem Turn.cells_ {a w : World} {S : Nat → Prop} {b : Nat} (h : Turn S a w) (hb : a.heap.size ≤ b) (i : Nat) (u : Value) : Turn S a (w.setCell ⟨b, i, none⟩ u) :=
  ⟨h.os, h.tape, h.output, by simpa [World.setCell] using h.size, fun k hk hn => (Below.heap_setCell w _ u k (fun e => by have e9 : k = b := e; omega)).trans (h.block k hk hn), fun k cs hp => (Below.heap_setCell w _ u k (fun e => by have e9 : k = b := e; have := hp.lt; omega)).trans (h.peers k cs hp)⟩

/-- a cell of a block of another type has turned -/
theorem NodeR.aside {w : World} {base g b : Nat} {x : NodeM} {L : NodeL} {t : TypeId} {cs : Array Value} (h : NodeR w base g x L) (hB : Blk w b t cs) (h1 : 109 ≠ t) (h2 : 131 ≠ t) (h3 : 73 ≠ t) (h4 : 152 ≠ t) (h5 : 61 ≠ t) (i : Nat) (u : Value) : NodeR (w.setCell ⟨b, i, none⟩ u) base g x L := by
  obtain ⟨Al, cl, hlb, _⟩ := h.log
  refine ⟨h.blk.far (p := ⟨b, i, none⟩) (h.blk.apart hB h1) u, h.base_le, ?_, ?_, ?_, h.msgs, fun y hy => ⟨(h.rows y hy).1, ?_, (h.rows y hy).2.2⟩⟩
  · refine h.log.far (p := ⟨b, i, none⟩) (hlb.apart hB h2) (fun k hk => ?_) u
    obtain ⟨_, cur, hC⟩ := h.log.foot_at k hk
    exact hC.apart hB h3
  · refine h.peers.far (p := ⟨b, i, none⟩) (fun k hk => ?_) u
    obtain ⟨_, cur, hC⟩ := h.peers.foot_at k hk
    exact hC.apart hB h4
  · refine h.out.far (p := ⟨b, i, none⟩) (fun k hk => ?_) u
    obtain ⟨_, cur, hC⟩ := h.out.foot_at k hk
    exact hC.apart hB h5
  · refine (h.rows y hy).2.1.far (p := ⟨b, i, none⟩) (fun k hk => ?_) u
    obtain ⟨_, cur, hC⟩ := (h.rows y hy).2.1.foot_at k hk
    exact hC.apart hB h3

set_option maxRecDepth 100000 in
set_option maxHeartbeats 1600000 in
/-- (*raft.Node).Save -/
theorem nSave_any (base g : Nat) (x : NodeM) (S : Nat → Prop) (w : World) (h : NodeAt w base g x S) (hn : 0 < x.n) (hl : x.log.length ≤ 1048576) (hf0 : 0 ≤ x.fr) (hf1 : x.fr ≤ 4611686018427387904) :
    Calls Try.prog 39 #[.pointer (some ⟨g, 0, none⟩)] w (SaveRet w base g x S) := by
  obtain ⟨L, hL, hS⟩ := h.cell
  have hG := h.own
  have hA := Blk.new w 41 #[.bool false, .int .i64 0, .int .i64 0, .int .i64 0, .slice none 0 0]
  have hb0 := (Below.refl w.heap.size w).alloc (Nat.le_refl _) (.cells #[.bool false, .int .i64 0, .int .i64 0, .int .i64 0, .slice none 0 0] 41)
  have HMA := Lib.hid (made_any base g x S _ (h.on hb0) hn)
  have H := Lib.hid h
  have HL := Lib.hid (hL.on hb0)
  have HS := Lib.hid hS
  have HG := Lib.hid hG
  have HA := Lib.hid hA
  have HB0 := Lib.hid hb0
  have HLT := Lib.hid hA.lt
  have HX := Lib.hid (And.intro hl (And.intro hf0 hf1))
  clear hL hS hG h hn hl hA hb0 hf0 hf1
  go_enter Try.func39, Try.ntmps39
  go_upto_region 1 with (fail)
  generalize w.alloc (.cells #[.bool false, .int .i64 0, .int .i64 0, .int .i64 0, .slice none 0 0] 41) = w0 at *
  obtain ⟨_, ⟨c4, c5, c6, c7⟩, _, ⟨_, _, _, c15, c16⟩⟩ := HL.out.cells
  have f15 := HL.out.blk.frozen 15
  have f16 := HL.out.blk.frozen 16
  by_cases hno : x.fresh = false ∧ x.fr = 0
  · obtain ⟨h1, h2⟩ := hno
    rw [h1] at c15
    rw [h2] at c16
    have d0 : w0.cell? ⟨w.heap.size, 0, none⟩ = some (.bool false) := by rw [HA.out.cell]; rfl
    have d1 : w0.cell? ⟨w.heap.size, 1, none⟩ = some (.int .i64 0) := by rw [HA.out.cell]; rfl
    have d2 : w0.cell? ⟨w.heap.size, 2, none⟩ = some (.int .i64 0) := by rw [HA.out.cell]; rfl
    have d3 : w0.cell? ⟨w.heap.size, 3, none⟩ = some (.int .i64 0) := by rw [HA.out.cell]; rfl
    have d4 : w0.cell? ⟨w.heap.size, 4, none⟩ = some (.slice none 0 0) := by rw [HA.out.cell]; rfl
    have f0 := HA.out.frozen 0
    have f1 := HA.out.frozen 1
    have f2 := HA.out.frozen 2
    have f3 := HA.out.frozen 3
    have f4 := HA.out.frozen 4
    have HN := Lib.hid (And.intro h1 h2)
    clear h1 h2
    go_wp2_with (first | (refine HMA.out.mono ?_; rintro e w2 ⟨rfl, rfl⟩))
    have HA4 := Lib.hid (((((HA.out.set_ 0 (.bool false)).set_ 1 (.int .i64 0)).set_ 2 (.int .i64 0)).set_ 3 (.int .i64 0)).set_ 4 (.slice none 0 0))
    refine bodyPost_ret (results_row2 rfl _ _ w.heap.size 41 #[.bool false, .int .i64 0, .int .i64 0, .int .i64 0, .slice none 0 0] _ rfl HA4.out Try.underlying41 rfl save_size) rfl ?_
    have hw : Turn S w w2 := Turn.of_below HB0.out
    have ht := ((((hw.cells_ (Nat.le_refl _) 0 (.bool false)).cells_ (Nat.le_refl _) 1 (.int .i64 0)).cells_ (Nat.le_refl _) 2 (.int .i64 0)).cells_ (Nat.le_refl _) 3 (.int .i64 0)).cells_ (Nat.le_refl _) 4 (.slice none 0 0)
    have hx : savedF x = x := by
      obtain ⟨_, _, _, _, _, _, _, _, _, _, _, _, _, _, _, fresh, fr⟩ := x
      obtain ⟨h1, h2⟩ := HN.out
      simp only at h1 h2
      subst h1
      subst h2
      rfl
    have hes : saveEs x = [] := by unfold saveEs; rw [if_neg (by rw [HN.out.2]; omega)]
    have hbb : Below w.heap.size w _ := ((((HB0.out.setCell (p := ⟨w.heap.size, 0, none⟩) (Nat.le_refl _) (.bool false)).setCell (p := ⟨w.heap.size, 1, none⟩) (Nat.le_refl _) (.int .i64 0)).setCell (p := ⟨w.heap.size, 2, none⟩) (Nat.le_refl _) (.int .i64 0)).setCell (p := ⟨w.heap.size, 3, none⟩) (Nat.le_refl _) (.int .i64 0)).setCell (p := ⟨w.heap.size, 4, none⟩) (Nat.le_refl _) (.slice none 0 0)
    refine ⟨none, 0, ?_, ?_, ?_, ht⟩
    · rw [hes]
      unfold saveT saveV saveOk
      rw [HN.out.1, HN.out.2]
      rfl
    · rw [hes]
      exact FreeN.nil _ _ _ _
    · rw [hx]
      exact H.out.on hbb
  · go_cut [21] (fun v wx => v = .bool false ∧ wx = w0)
    case first =>
      cases hfr : x.fresh
      · have hne : ¬ x.fr = 0 := fun e => hno ⟨hfr, e⟩
        have hne2 : (x.fr == 0) = false := by rw [beq_eq_false_iff_ne]; exact hne
        rw [hfr] at c15
        go_wp2_with (first | (refine HMA.out.mono ?_; rintro e w2 ⟨rfl, rfl⟩))
        go_meet
        exact ⟨rfl, rfl⟩
      · rw [hfr] at c15
        go_wp2_with (first | (refine HMA.out.mono ?_; rintro e w2 ⟨rfl, rfl⟩))
        go_meet
        exact ⟨rfl, rfl⟩
    case rest =>
      obtain ⟨rfl, hwc⟩ := hcut
      have hwc2 := hwc.symm
      subst hwc2
      clear hwc
      have HNO := Lib.hid hno
      have hB := Blk.new w0 41 #[.bool false, .int .i64 0, .int .i64 0, .int .i64 0, .slice none 0 0]
      have hb1 := (Below.refl w0.heap.size w0).alloc (Nat.le_refl _) (.cells #[.bool false, .int .i64 0, .int .i64 0, .int .i64 0, .slice none 0 0] 41)
      clear hno c4 c5 c6 c7 c15 c16 f15 f16 HMA
      go_upto_region 4 with (fail)
      generalize w0.alloc (.cells #[.bool false, .int .i64 0, .int .i64 0, .int .i64 0, .slice none 0 0] 41) = w1 at *
      have HL1 := Lib.hid (HL.out.on hb1)
      have HBW := Lib.hid hb1
      have HBB := Lib.hid hB
      have HA1 := Lib.hid (HA.out.below hb1 HA.out.lt)
      have HB1 := Lib.hid (bthen HB0.out hb1)
      have HLT1 := Lib.hid hB.lt
      clear hB hb1
      obtain ⟨_, ⟨c4, c5, c6, c7⟩, _, ⟨_, _, _, c15, c16⟩⟩ := HL1.out.cells
      have d0 : w1.cell? ⟨w0.heap.size, 0, none⟩ = some (.bool false) := by rw [HBB.out.cell]; rfl
      have d1 : w1.cell? ⟨w0.heap.size, 1, none⟩ = some (.int .i64 0) := by rw [HBB.out.cell]; rfl
      have d2 : w1.cell? ⟨w0.heap.size, 2, none⟩ = some (.int .i64 0) := by rw [HBB.out.cell]; rfl
      have f0 := HBB.out.frozen 0
      have f1 := HBB.out.frozen 1
      have f2 := HBB.out.frozen 2
      go_upto_if 26 with (fail)
      go_cut [] (fun wx => Blk wx w0.heap.size 41 #[.bool x.fresh, .int .i64 (saveT x), .int .i64 (saveV x), .int .i64 0, .slice none 0 0] ∧ Below w0.heap.size w0 wx)
      case first =>
        have HST := Lib.hid (show saveT x = if x.fresh then x.term else 0 from rfl)
        have HSV := Lib.hid (show saveV x = if x.fresh then x.vote else 0 from rfl)
        cases hfr : x.fresh
        · go_wp2_with fail
          go_meet
          have hst := HST.out
          have hsv := HSV.out
          rw [hfr] at hst hsv
          rw [hst, hsv, hfr]
          exact ⟨HBB.out, HBW.out⟩
        · go_upto_region 5 with (fail)
          go_region
          all_goals
            go_wp2_with fail
            go_meet
            have hst := HST.out
            have hsv := HSV.out
            rw [hfr] at hst hsv
            rw [hst, hsv, hfr]
            have hbf := ((HBW.out.setCell (p := ⟨w0.heap.size, 0, none⟩) (Nat.le_refl _) (.bool true)).setCell (p := ⟨w0.heap.size, 1, none⟩) (Nat.le_refl _) (.int .i64 x.term)).setCell (p := ⟨w0.heap.size, 2, none⟩) (Nat.le_refl _) (.int .i64 x.vote)
            exact ⟨((HBB.out.set_ 0 (.bool true)).set_ 1 (.int .i64 x.term)).set_ 2 (.int .i64 x.vote), by first | exact hbf | exact hbf.drew⟩
      case rest =>
        obtain ⟨hk, hb2⟩ := hcut
        have HL2 := Lib.hid (HL.out.on hb2)
        have HBC := Lib.hid hb2
        have HZ2 := Lib.hid hk.lt
        have HK := Lib.hid hk
        clear HL1 HA1 HB1 HBB HBW hb2 c4 c5 c6 c7 c15 c16 d0 d1 d2 f0 f1 f2 hk
        obtain ⟨_, ⟨c4, c5, c6, c7⟩, _, ⟨_, _, _, c15, c16⟩⟩ := HL2.out.cells
        go_upto_if 42 with (fail)
        go_cut [] (fun wx => ∃ A c, Blk wx w0.heap.size 41 #[.bool x.fresh, .int .i64 (saveT x), .int .i64 (saveV x), .int .i64 x.fr, .slice A (saveEs x).length c] ∧ FreeN 2 wx wc.heap.size 73 A (saveEs x).length c (ecs (saveEs x)) ∧ Below w0.heap.size w0 wx)
        case first =>
          have HSE := Lib.hid (show saveEs x = if 0 < x.fr then fromF x.log x.fr 1024 else [] from rfl)
          by_cases hfp : 0 < x.fr
          · have hes := HSE.out
            rw [if_pos hfp] at hes
            have HES := Lib.hid hes
            have HFR := Lib.hid (fun W (hW : Below wc.heap.size wc W) => lFrom_any base L.gl L.fl x.log x.fr 1024 W (HL2.out.on hW).log (by have := HX.out; omega) (by have := HX.out; omega))
            clear hes HSE
            go_upto_region 7 with (fail)
            go_region_with (refine (HFR.out _ (by first | exact (Below.refl _ _).drew | exact Below.refl _ _)).mono ?_
                            rintro e w5 ⟨A, n, c, rfl, hn, hf, hb⟩
                            have hb1 := Below.trans (by first | exact (Below.refl _ _).drew | exact Below.refl _ _) hb
                            obtain ⟨_, ⟨c4, c5, c6, c7⟩, _, ⟨_, _, _, c15, c16⟩⟩ := (HL2.out.on hb1).cells
                            have hK5 := HK.out.below hb1 HZ2.out
                            have d3 : w5.cell? ⟨w0.heap.size, 3, none⟩ = some (.int .i64 0) := (by rw [hK5.cell]; rfl)
                            have d4 : w5.cell? ⟨w0.heap.size, 4, none⟩ = some (.slice none 0 0) := (by rw [hK5.cell]; rfl)
                            have f3 := hK5.frozen 3
                            have f4 := hK5.frozen 4
                            have HK5 := Lib.hid hK5
                            have HN := Lib.hid hn
                            have HF := Lib.hid hf
                            have HB5 := Lib.hid (HBC.out.trans (hb1.mono (Nat.le_of_lt HZ2.out)))
                            clear hb1 hK5 hn hf hb)
            all_goals
              go_wp2_with fail
              go_meet
              have hlen : (saveEs x).length = n := by rw [HES.out]; exact HN.out
              have hf1 := free_past (b := w0.heap.size) HF.out HZ2.out 3 (.int .i64 x.fr)
              have hf2 := free_past (b := w0.heap.size) hf1 HZ2.out 4 (.slice A n c)
              have hbf := (HB5.out.setCell (p := ⟨w0.heap.size, 3, none⟩) (Nat.le_refl _) (.int .i64 x.fr)).setCell (p := ⟨w0.heap.size, 4, none⟩) (Nat.le_refl _) (.slice A n c)
              refine ⟨A, c, ?_, ?_, hbf⟩
              · rw [hlen]
                exact (HK5.out.set_ 3 (.int .i64 x.fr)).set_ 4 (.slice A n c)
              · rw [hlen, HES.out]
                exact hf2
          · have hes := HSE.out
            rw [if_neg hfp] at hes
            have HES := Lib.hid hes
            have HF0 := Lib.hid (show x.fr = 0 by have := HX.out; omega)
            clear hes HSE
            go_wp2_with fail
            go_meet
            refine ⟨none, 0, ?_, ?_, HBC.out⟩
            · rw [HES.out, HF0.out]
              exact HK.out
            · rw [HES.out]
              exact FreeN.nil _ _ _ _
        case rest =>
          obtain ⟨A, c, hk3, hf3, hb3⟩ := hcut
          have hL3 := HL.out.on hb3
          have hA3 := HA.out.below hb3 HLT.out
          have hB3 := bthen HB0.out hb3
          obtain ⟨_, _, _, ⟨_, _, _, c15, c16⟩⟩ := hL3.cells
          have f15 := hL3.blk.frozen 15
          have f16 := hL3.blk.frozen 16
          have hgs : w0.heap.size ≠ g := hk3.apart hL3.blk (by decide)
          have hgr : w.heap.size ≠ g := hA3.apart hL3.blk (by decide)
          have hset := (hL3.set 15 (.bool false) (x' := { x with fresh := false }) rfl rfl rfl rfl).set 16 (.int .i64 0) (x' := savedF x) rfl rfl rfl rfl
          have hfoot : ∀ k, foot A c = some k → k ≠ g := fun k hk => by
            obtain ⟨_, cur, hB⟩ := hf3.foot_at k hk
            exact hB.apart hL3.blk (by decide)
          have HSET := Lib.hid hset
          have HK4 := Lib.hid ((hk3.far (p := ⟨g, 15, none⟩) hgs (.bool false)).far (p := ⟨g, 16, none⟩) hgs (.int .i64 0))
          have HA4 := Lib.hid ((hA3.far (p := ⟨g, 15, none⟩) hgr (.bool false)).far (p := ⟨g, 16, none⟩) hgr (.int .i64 0))
          have HF4 := Lib.hid ((hf3.far (p := ⟨g, 15, none⟩) hfoot (.bool false)).far (p := ⟨g, 16, none⟩) hfoot (.int .i64 0))
          have HT4 := Lib.hid (((Turn.of_below hB3).set_ HG.out 15 (.bool false)).set_ HG.out 16 (.int .i64 0))
          have HRS := Lib.hid (Nat.lt_trans HLT.out HZ2.out)
          clear hL3 hA3 hB3 hgs hgr hset hfoot hk3 hf3 hb3 c4 c5 c6 c7 HL2 HK
          go_upto_region 9 with (fail)
          clear c15 c16 f15 f16
          generalize ((wc.setCell ⟨g, 15, none⟩ (.bool false)).setCell ⟨g, 16, none⟩ (.int .i64 0)) = w4 at *
          have s0 : w4.cell? ⟨w0.heap.size, 0, none⟩ = some (.bool x.fresh) := by rw [HK4.out.cell]; rfl
          have s1 : w4.cell? ⟨w0.heap.size, 1, none⟩ = some (.int .i64 (saveT x)) := by rw [HK4.out.cell]; rfl
          have s2 : w4.cell? ⟨w0.heap.size, 2, none⟩ = some (.int .i64 (saveV x)) := by rw [HK4.out.cell]; rfl
          have s3 : w4.cell? ⟨w0.heap.size, 3, none⟩ = some (.int .i64 x.fr) := by rw [HK4.out.cell]; rfl
          have s4 : w4.cell? ⟨w0.heap.size, 4, none⟩ = some (.slice A (saveEs x).length c) := by rw [HK4.out.cell]; rfl
          have hrow : w4.heap[w0.heap.size]? = some (.cells #[.bool x.fresh, .int .i64 (saveT x), .int .i64 (saveV x), .int .i64 x.fr, .slice A (saveEs x).length c] 41 (0, 0)) := HK4.out
          have d0 : w4.cell? ⟨w.heap.size, 0, none⟩ = some (.bool false) := by rw [HA4.out.cell]; rfl
          have d1 : w4.cell? ⟨w.heap.size, 1, none⟩ = some (.int .i64 0) := by rw [HA4.out.cell]; rfl
          have d2 : w4.cell? ⟨w.heap.size, 2, none⟩ = some (.int .i64 0) := by rw [HA4.out.cell]; rfl
          have d3 : w4.cell? ⟨w.heap.size, 3, none⟩ = some (.int .i64 0) := by rw [HA4.out.cell]; rfl
          have d4 : w4.cell? ⟨w.heap.size, 4, none⟩ = some (.slice none 0 0) := by rw [HA4.out.cell]; rfl
          have f0 := HA4.out.frozen 0
          have f1 := HA4.out.frozen 1
          have f2 := HA4.out.frozen 2
          have f3 := HA4.out.frozen 3
          have f4 := HA4.out.frozen 4
          generalize hT : saveT x = T at *
          generalize hV : saveV x = V at *
          have HTV := Lib.hid (And.intro hT hV)
          clear hT hV
          go_wp2_with fail
          have a0 := HA4.out
          have a1 := a0.set_ 0 (.bool x.fresh)
          have a2 := a1.set_ 1 (.int .i64 T)
          have a3 := a2.set_ 2 (.int .i64 V)
          have a4 := a3.set_ 3 (.int .i64 x.fr)
          have a5 := a4.set_ 4 (.slice A (saveEs x).length c)
          refine bodyPost_ret (results_row2 rfl _ _ w.heap.size 41 #[.bool x.fresh, .int .i64 T, .int .i64 V, .int .i64 x.fr, .slice A (saveEs x).length c] _ rfl a5 Try.underlying41 rfl save_size) rfl ?_
          have hok : saveOk x = true := by
            unfold saveOk
            cases hfr : x.fresh
            · have : x.fr ≠ 0 := fun e => HNO.out ⟨hfr, e⟩
              simp [this]
            · rfl
          have hn := HSET.out
          have n1 := hn.aside a0 (by decide) (by decide) (by decide) (by decide) (by decide) 0 (.bool x.fresh)
          have n2 := n1.aside a1 (by decide) (by decide) (by decide) (by decide) (by decide) 1 (.int .i64 T)
          have n3 := n2.aside a2 (by decide) (by decide) (by decide) (by decide) (by decide) 2 (.int .i64 V)
          have n4 := n3.aside a3 (by decide) (by decide) (by decide) (by decide) (by decide) 3 (.int .i64 x.fr)
          have n5 := n4.aside a4 (by decide) (by decide) (by decide) (by decide) (by decide) 4 (.slice A (saveEs x).length c)
          have g1 := free_past (b := w.heap.size) HF4.out HRS.out 0 (.bool x.fresh)
          have g2 := free_past (b := w.heap.size) g1 HRS.out 1 (.int .i64 T)
          have g3 := free_past (b := w.heap.size) g2 HRS.out 2 (.int .i64 V)
          have g4 := free_past (b := w.heap.size) g3 HRS.out 3 (.int .i64 x.fr)
          have g5 := free_past (b := w.heap.size) g4 HRS.out 4 (.slice A (saveEs x).length c)
          have t5 := ((((HT4.out.cells_ (Nat.le_refl _) 0 (.bool x.fresh)).cells_ (Nat.le_refl _) 1 (.int .i64 T)).cells_ (Nat.le_refl _) 2 (.int .i64 V)).cells_ (Nat.le_refl _) 3 (.int .i64 x.fr)).cells_ (Nat.le_refl _) 4 (.slice A (saveEs x).length c)
          refine ⟨A, c, ?_, g5.mono (Nat.le_of_lt HRS.out), ⟨L, n5, HS.out⟩, t5⟩
          rw [hok, HTV.out.1, HTV.out.2]
          rfl
end Go.Proofs.Ytlggkeoihpcdiaa
