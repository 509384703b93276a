/- The walks of package raft's New: a node of right arguments; none of others. -/
import Derived.Test.YtlggkeoihpcdiaaJ7
namespace Go.Proofs.Ytlggkeoihpcdiaa
open Go.RowKit

def newF (id n el be : Int) (s : StP) : NodeM := ⟨id, n, el, be, s.t, s.v, s.es, 0, 0, -1, 0, 0, 0, [], [], false, 0⟩

theorem new_at {w5 : World} {B gx gl base4 : Nat} {fl : Option Nat} {id n el be t v : Int} {es : List Ent} (hX : Blk w5 gx 109 #[.int .i64 id, .int .i64 n, .int .i64 el, .int .i64 be, .int .i64 0, .int .i64 0, .pointer none, .int .i64 0, .int .i64 0, .int .i64 (-1), .int .i64 0, .int .u64 0, .int .u64 0, .slice none 0 0, .slice none 0 0, .bool false, .int .i64 0]) (hl : LogAt w5 base4 gl fl es) (hB : B ≤ gx) (hb4 : B ≤ base4) (hx4 : gx < base4) :
    NodeAt (((w5.setCell ⟨gx, 4, none⟩ (.int .i64 t)).setCell ⟨gx, 5, none⟩ (.int .i64 v)).setCell ⟨gx, 6, none⟩ (.pointer (some ⟨gl, 0, none⟩))) B gx (newF id n el be ⟨t, v, es⟩) (NodeL.has gx ⟨gl, fl, none, 0, none, 0, []⟩) := by
  refine ⟨⟨gl, fl, none, 0, none, 0, []⟩, ⟨?_, hB, ?_, FreeN.nil _ _ _ _, FreeN.nil _ _ _ _, rfl, fun y hy => by simp at hy⟩, fun k => Iff.rfl⟩
  · have h := ((hX.set_ 4 (.int .i64 t)).set_ 5 (.int .i64 v)).set_ 6 (.pointer (some ⟨gl, 0, none⟩))
    have e : ((#[Value.int .i64 id, .int .i64 n, .int .i64 el, .int .i64 be, .int .i64 0, .int .i64 0, .pointer none, .int .i64 0, .int .i64 0, .int .i64 (-1), .int .i64 0, .int .u64 0, .int .u64 0, .slice none 0 0, .slice none 0 0, .bool false, .int .i64 0].setIfInBounds 4 (.int .i64 t)).setIfInBounds 5 (.int .i64 v)).setIfInBounds 6 (.pointer (some ⟨gl, 0, none⟩)) = ncells (newF id n el be ⟨t, v, es⟩) ⟨gl, fl, none, 0, none, 0, []⟩ := by
      simp [ncells, newF]
    rw [← e]
    exact h
  · have h1 : gl ≠ gx := by have := hl.base_le; omega
    have h2 : ∀ k, fl = some k → k ≠ gx := fun k hk => by have := (hl.foot_at k hk).1; omega
    exact (((hl.far (p := ⟨gx, 4, none⟩) h1 h2 _).far (p := ⟨gx, 5, none⟩) h1 h2 _).far (p := ⟨gx, 6, none⟩) h1 h2 _).mono hb4

set_option maxRecDepth 100000 in
set_option maxHeartbeats 1600000 in
/-- raft.New, of right arguments -/
theorem nNew_any (id n el be : Int) (s : StP) (A : Option Addr) (k c : Nat) (w : World) (hs : Ents w w.heap.size A s.es) (hl : s.es.length = k) (hk : k ≤ 1099511627776) (hr : rightS s = true) (h1 : 1 ≤ n ∧ n ≤ 7) (h2 : 0 ≤ id ∧ id ≤ n - 1) (h3 : 1 ≤ el ∧ el ≤ 1000) (h4 : 1 ≤ be ∧ be ≤ el) :
    Calls Try.prog 27 #[.int .i64 id, .int .i64 n, .int .i64 el, .int .i64 be, .agg #[.int .i64 s.t, .int .i64 s.v, .slice A k c]] w fun e w' => ∃ g S, e = .returned (.tuple #[.pointer (some ⟨g, 0, none⟩), .int .i64 0]) ∧ NodeAt w' w.heap.size g (newF id n el be s) S ∧ Below w.heap.size w w' := by
  obtain ⟨t, v, es⟩ := s
  simp only at hs hl ⊢
  have Q1 := Lib.hid (fun W => rwithin_any n 1 7 true (by simp [h1.1, h1.2]) W)
  have Q2 := Lib.hid (fun W => rwithin_any id 0 (n - 1) true (by simp [h2.1, h2.2]) W)
  have Q3 := Lib.hid (fun W => rwithin_any el 1 1000 true (by simp [h3.1, h3.2]) W)
  have Q4 := Lib.hid (fun W => rwithin_any be 1 el true (by simp [h4.1, h4.2]) W)
  have hw1 : IntKind.i64.wrap (n - 1) = n - 1 := wr_i64 (by omega) (by omega)
  have hw2 : wrap64 (n - 1) = n - 1 := wr_64 (by omega) (by omega)
  have hS := Blk.new w 25 #[.int .i64 t, .int .i64 v, .slice A k c]
  have hb0 := (Below.refl w.heap.size w).alloc (Nat.le_refl _) (.cells #[.int .i64 t, .int .i64 v, .slice A k c] 25)
  have QR := Lib.hid (right_any ⟨t, v, es⟩ A k c _ (Sees.on hs hb0) hl hk)
  have HSE := Lib.hid (fun W (hW : Below (w.alloc (.cells #[.int .i64 t, .int .i64 v, .slice A k c] 25)).heap.size (w.alloc (.cells #[.int .i64 t, .int .i64 v, .slice A k c] 25)) W) => Sees.on (Sees.on hs hb0) hW)
  have HLK := Lib.hid (And.intro hl hk)
  have HR := Lib.hid hr
  have HSB := Lib.hid hS
  have HB0 := Lib.hid hb0
  have HLT := Lib.hid hS.lt
  clear h1 h2 h3 h4 hs hl hk hr hS hb0
  go_enter Try.func27, Try.ntmps27
  go_upto_region 1 with (fail)
  generalize w.alloc (.cells #[.int .i64 t, .int .i64 v, .slice A k c] 25) = w0 at *
  go_wp2_with fail
  refine (Q1.out _).mono ?_
  rintro e w2 ⟨rfl, rfl⟩
  go_wp2_with fail
  refine (Q2.out _).mono ?_
  rintro e w2 ⟨rfl, rfl⟩
  go_wp2_with fail
  refine (Q3.out _).mono ?_
  rintro e w2 ⟨rfl, rfl⟩
  go_wp2_with fail
  refine (Q4.out _).mono ?_
  rintro e w2 ⟨rfl, rfl⟩
  have s0 : w2.cell? ⟨w.heap.size, 0, none⟩ = some (.int .i64 t) := by rw [HSB.out.cell]; rfl
  have s1 : w2.cell? ⟨w.heap.size, 1, none⟩ = some (.int .i64 v) := by rw [HSB.out.cell]; rfl
  have s2 : w2.cell? ⟨w.heap.size, 2, none⟩ = some (.slice A k c) := by rw [HSB.out.cell]; rfl
  have hrow : w2.heap[w.heap.size]? = some (.cells #[.int .i64 t, .int .i64 v, .slice A k c] 25 (0, 0)) := HSB.out
  go_wp2_with fail
  refine QR.out.mono ?_
  rintro e w3 ⟨rfl, hb3⟩
  rw [HR.out]
  have HSB3 := Lib.hid (HSB.out.below hb3 HSB.out.lt)
  have HB3 := Lib.hid (bthen HB0.out hb3)
  have HSE3 := Lib.hid (fun W (hW : Below w3.heap.size w3 W) => HSE.out W (hb3.trans (hW.mono hb3.size)))
  have HLT3 := Lib.hid (Nat.lt_of_lt_of_le HLT.out hb3.size)
  clear s0 s1 s2 hrow hb3 HSB HB0 HSE HLT QR Q1 Q2 Q3 Q4
  go_upto_region 6 with (fail)
  have hX := Blk.new w3 109 #[.int .i64 id, .int .i64 n, .int .i64 el, .int .i64 be, .int .i64 0, .int .i64 0, .pointer none, .int .i64 0, .int .i64 0, .int .i64 (-1), .int .i64 0, .int .u64 0, .int .u64 0, .slice none 0 0, .slice none 0 0, .bool false, .int .i64 0]
  have hb4 := (Below.refl w3.heap.size w3).alloc (Nat.le_refl _) (.cells #[.int .i64 id, .int .i64 n, .int .i64 el, .int .i64 be, .int .i64 0, .int .i64 0, .pointer none, .int .i64 0, .int .i64 0, .int .i64 (-1), .int .i64 0, .int .u64 0, .int .u64 0, .slice none 0 0, .slice none 0 0, .bool false, .int .i64 0] 109)
  generalize w3.alloc (.cells #[.int .i64 id, .int .i64 n, .int .i64 el, .int .i64 be, .int .i64 0, .int .i64 0, .pointer none, .int .i64 0, .int .i64 0, .int .i64 (-1), .int .i64 0, .int .u64 0, .int .u64 0, .slice none 0 0, .slice none 0 0, .bool false, .int .i64 0] 109) = w4 at *
  have hS4 := HSB3.out.below hb4 HSB3.out.lt
  have s0 : w4.cell? ⟨w.heap.size, 0, none⟩ = some (.int .i64 t) := by rw [hS4.cell]; rfl
  have s1 : w4.cell? ⟨w.heap.size, 1, none⟩ = some (.int .i64 v) := by rw [hS4.cell]; rfl
  have s2 : w4.cell? ⟨w.heap.size, 2, none⟩ = some (.slice A k c) := by rw [hS4.cell]; rfl
  have HS4 := Lib.hid hS4
  have HX := Lib.hid hX
  have HSE4 := Lib.hid (fun W (hW : Below w4.heap.size w4 W) => HSE3.out W (hb4.trans (hW.mono hb4.size)))
  have HB4 := Lib.hid (bthen HB3.out hb4)
  have HLT4 := Lib.hid hX.lt
  have HLE3 := Lib.hid HB3.out.size
  clear hX hb4 HSB3 HSE3 HB3 hS4
  go_region_with (refine (lNew_any A k c es _ (HSE4.out _ (by first | exact (Below.refl _ _).drew | exact Below.refl _ _)) HLK.out.1 HLK.out.2).mono ?_
                  rintro e w5 ⟨gl, fl, rfl, hlg, hb⟩
                  have hb1 := Below.trans (by first | exact (Below.refl _ _).drew | exact Below.refl _ _) hb
                  have hS5 := HS4.out.below hb1 HS4.out.lt
                  have hX5 := HX.out.below hb1 HLT4.out
                  have s0 : w5.cell? ⟨w.heap.size, 0, none⟩ = some (.int .i64 t) := (by rw [hS5.cell]; rfl)
                  have s1 : w5.cell? ⟨w.heap.size, 1, none⟩ = some (.int .i64 v) := (by rw [hS5.cell]; rfl)
                  have s2 : w5.cell? ⟨w.heap.size, 2, none⟩ = some (.slice A k c) := (by rw [hS5.cell]; rfl)
                  have d4 : w5.cell? ⟨w3.heap.size, 4, none⟩ = some (.int .i64 0) := (by rw [hX5.cell]; rfl)
                  have d5 : w5.cell? ⟨w3.heap.size, 5, none⟩ = some (.int .i64 0) := (by rw [hX5.cell]; rfl)
                  have d6 : w5.cell? ⟨w3.heap.size, 6, none⟩ = some (.pointer none) := (by rw [hX5.cell]; rfl)
                  have f4 := hX5.frozen 4
                  have f5 := hX5.frozen 5
                  have f6 := hX5.frozen 6
                  have HX5 := Lib.hid hX5
                  have HLG := Lib.hid hlg
                  have HB5 := Lib.hid (bthen HB4.out hb1)
                  clear hb1 hS5 hX5 hlg hb)
  all_goals
    go_wp2_with fail
    go_ret2
    refine ⟨w3.heap.size, _, rfl, new_at HX5.out HLG.out HLE3.out (Nat.le_trans HLE3.out (Nat.le_of_lt HLT4.out)) HLT4.out, ?_⟩
    exact ((HB5.out.setCell (p := ⟨w3.heap.size, 4, none⟩) HLE3.out (.int .i64 t)).setCell (p := ⟨w3.heap.size, 5, none⟩) HLE3.out (.int .i64 v)).setCell (p := ⟨w3.heap.size, 6, none⟩) HLE3.out (.pointer (some ⟨gl, 0, none⟩))

set_option maxRecDepth 100000 in
set_option maxHeartbeats 1600000 in
/-- raft.New, of others -/
theorem nNew_bad (id n el be : Int) (v : StP) (A : Option Addr) (k c : Nat) (w : World) (h : ¬ ((1 ≤ n ∧ n ≤ 7) ∧ (0 ≤ id ∧ id ≤ n - 1) ∧ (1 ≤ el ∧ el ≤ 1000) ∧ (1 ≤ be ∧ be ≤ el))) :
    Calls Try.prog 27 #[.int .i64 id, .int .i64 n, .int .i64 el, .int .i64 be, .agg #[.int .i64 v.t, .int .i64 v.v, .slice A k c]] w fun e w' => e = .returned (.tuple #[.pointer none, .int .i64 1]) ∧ Below w.heap.size w w' := by
  obtain ⟨t, v, es⟩ := v
  simp only
  have hb0 := (Below.refl w.heap.size w).alloc (Nat.le_refl _) (.cells #[.int .i64 t, .int .i64 v, .slice A k c] 25)
  have HB0 := Lib.hid hb0
  clear hb0
  by_cases h1 : 1 ≤ n ∧ n ≤ 7
  · have Q1 := Lib.hid (fun W => rwithin_any n 1 7 true (by simp [h1.1, h1.2]) W)
    have hw1 : IntKind.i64.wrap (n - 1) = n - 1 := wr_i64 (by omega) (by omega)
    have hw2 : wrap64 (n - 1) = n - 1 := wr_64 (by omega) (by omega)
    by_cases h2 : 0 ≤ id ∧ id ≤ n - 1
    · have Q2 := Lib.hid (fun W => rwithin_any id 0 (n - 1) true (by simp [h2.1, h2.2]) W)
      by_cases h3 : 1 ≤ el ∧ el ≤ 1000
      · have Q3 := Lib.hid (fun W => rwithin_any el 1 1000 true (by simp [h3.1, h3.2]) W)
        have Q4 := Lib.hid (fun W => rwithin_any be 1 el false (by rw [Bool.and_eq_false_iff, decide_eq_false_iff_not, decide_eq_false_iff_not]; omega) W)
        clear h h1 h2 h3
        go_enter Try.func27, Try.ntmps27
        go_wp2_with fail
        refine (Q1.out _).mono ?_
        rintro e w2 ⟨rfl, rfl⟩
        go_wp2_with fail
        refine (Q2.out _).mono ?_
        rintro e w2 ⟨rfl, rfl⟩
        go_wp2_with fail
        refine (Q3.out _).mono ?_
        rintro e w2 ⟨rfl, rfl⟩
        go_wp2_with fail
        refine (Q4.out _).mono ?_
        rintro e w2 ⟨rfl, rfl⟩
        go_wp2_with fail
        go_ret2
        exact ⟨rfl, HB0.out⟩
      · have Q3 := Lib.hid (fun W => rwithin_any el 1 1000 false (by rw [Bool.and_eq_false_iff, decide_eq_false_iff_not, decide_eq_false_iff_not]; omega) W)
        clear h h1 h2 h3
        go_enter Try.func27, Try.ntmps27
        go_wp2_with fail
        refine (Q1.out _).mono ?_
        rintro e w2 ⟨rfl, rfl⟩
        go_wp2_with fail
        refine (Q2.out _).mono ?_
        rintro e w2 ⟨rfl, rfl⟩
        go_wp2_with fail
        refine (Q3.out _).mono ?_
        rintro e w2 ⟨rfl, rfl⟩
        go_wp2_with fail
        go_ret2
        exact ⟨rfl, HB0.out⟩
    · have Q2 := Lib.hid (fun W => rwithin_any id 0 (n - 1) false (by rw [Bool.and_eq_false_iff, decide_eq_false_iff_not, decide_eq_false_iff_not]; omega) W)
      clear h h1 h2
      go_enter Try.func27, Try.ntmps27
      go_wp2_with fail
      refine (Q1.out _).mono ?_
      rintro e w2 ⟨rfl, rfl⟩
      go_wp2_with fail
      refine (Q2.out _).mono ?_
      rintro e w2 ⟨rfl, rfl⟩
      go_wp2_with fail
      go_ret2
      exact ⟨rfl, HB0.out⟩
  · have Q1 := Lib.hid (fun W => rwithin_any n 1 7 false (by rw [Bool.and_eq_false_iff, decide_eq_false_iff_not, decide_eq_false_iff_not]; omega) W)
    clear h h1
    go_enter Try.func27, Try.ntmps27
    go_wp2_with fail
    refine (Q1.out _).mono ?_
    rintro e w2 ⟨rfl, rfl⟩
    go_wp2_with fail
    go_ret2
    exact ⟨rfl, HB0.out⟩
end Go.Proofs.Ytlggkeoihpcdiaa

/- The walks of package raft's Committed and Out. -/
namespace Go.Proofs.Ytlggkeoihpcdiaa
open Go.RowKit

def committedF (x : NodeM) (i : Int) : List Ent := fromF x.log (max i 1) (x.commit - max i 1 + 1)
set_option maxRecDepth 100000 in
set_option maxHeartbeats 800000 in
/-- (*raft.Node).Committed -/
theorem nCommitted_any (base g : Nat) (x : NodeM) (i : Int) (S : Nat → Prop) (w : World) (h : NodeAt w base g x S) (hn : 0 < x.n) (hl : x.log.length ≤ 1048576) (hc0 : 0 ≤ x.commit) (hc : x.commit ≤ 4611686018427387904) (hi : i < 9223372036854775808) :
    Calls Try.prog 37 #[.pointer (some ⟨g, 0, none⟩), .int .i64 i] w (EntsRet w (committedF x i)) := by
  obtain ⟨L, hL, _⟩ := h.cell
  obtain ⟨_, ⟨c4, c5, c6, c7⟩, _⟩ := hL.cells
  have HMA := Lib.hid (made_any base g x S w h hn)
  have hmx : (max i 1 : Int) = if i < 1 then 1 else i := by split <;> omega
  have HFR := Lib.hid (fun W (hW : Below w.heap.size w W) => lFrom_any base L.gl L.fl x.log (max i 1) (x.commit - max i 1 + 1) W (hL.on hW).log (by omega) (by omega))
  have HL := Lib.hid hL
  have HCF := Lib.hid (show committedF x i = fromF x.log (max i 1) (x.commit - max i 1 + 1) from rfl)
  have hw1 : IntKind.i64.wrap (x.commit - max i 1) = x.commit - max i 1 := by rw [IntKind.wrap_i64]; omega
  have hw2 : IntKind.i64.wrap (x.commit - max i 1 + 1) = x.commit - max i 1 + 1 := by rw [IntKind.wrap_i64]; omega
  have hmx' := hmx.symm
  clear hL h hn hl hc0 hc hi hmx
  generalize (max i 1 : Int) = m at *
  go_enter Try.func37, Try.ntmps37
  go_wp2_with (first | (refine HMA.out.mono ?_; rintro e w2 ⟨rfl, rfl⟩))
  go_region_with (refine (HFR.out _ (by first | exact (Below.refl _ _).drew | exact Below.refl _ _)).mono ?_
                  rintro e w3 ⟨A, n, c, rfl, hl, hf, hb⟩)
  all_goals
    go_wp2_with fail
    go_ret
    rw [HCF.out]
    exact ⟨_, _, _, rfl, hl, hf, by first | exact hb | exact Below.trans (Below.refl _ _).drew hb⟩

section
variable {w : World} {base g : Nat} {x : NodeM} {L : NodeL} {S : Nat → Prop}
/-- out is handed out -/
theorem NodeR.outed (h : NodeR w base g x L) : NodeR (w.setCell ⟨g, 14, none⟩ (.slice none 0 0)) base g { x with out := [] } { L with Ao := none, co := 0, ml := [] } := by
  refine ⟨?_, h.base_le, ?_, ?_, FreeN.nil _ _ _ _, rfl, fun y hy => by simp at hy⟩
  · have e : (ncells x L).setIfInBounds 14 (.slice none 0 0) = ncells { x with out := [] } { L with Ao := none, co := 0, ml := [] } := by
      simp [ncells]
    rw [← e]
    exact h.blk.set_ 14 _
  · exact h.log.far (p := ⟨g, 14, none⟩) (Ne.symm h.far_log) h.far_fl _
  · exact h.peers.far (p := ⟨g, 14, none⟩) h.far_p _
end
/-- messages are handed out: none of their blocks is the node's any more -/
def OutRet (w : World) (base g : Nat) (x : NodeM) (S : Nat → Prop) (e : Ending) (w' : World) : Prop :=
  ∃ A c ml S', e = .returned (.slice A ml.length c) ∧ ml.map MsgL.m = x.out ∧ FreeN 9 w' base 61 A ml.length c (mcs ml) ∧ (∀ y ∈ ml, y.m.es.length = y.n ∧ FreeN 2 w' base 73 y.A y.n y.c (ecs y.m.es) ∧ ∀ k, foot y.A y.c = some k → ¬ S' k) ∧ NodeAt w' base g { x with out := [] } S' ∧ Turn S w w' ∧ (∀ k, S' k → S k) ∧ ∀ k, foot A c = some k → ¬ S' k
theorem NodeR.outs {w : World} {base g : Nat} {x : NodeM} {L : NodeL} {S : Nat → Prop} (h : NodeR w base g x L) (hS : ∀ k, S k ↔ L.has g k) : OutRet w base g x S (.returned (.slice L.Ao L.ml.length L.co)) (w.setCell ⟨g, 14, none⟩ (.slice none 0 0)) := by
  have hn := h.outed
  obtain ⟨Al, cl, hlb, _⟩ := h.log
  refine ⟨L.Ao, L.co, L.ml, _, rfl, h.msgs, h.out.far (p := ⟨g, 14, none⟩) h.far_o _, fun y hy => ⟨(h.rows y hy).1, ?_, fun k hk hs => ?_⟩, ⟨_, hn, fun k => Iff.rfl⟩, (Turn.refl S w).set_ ⟨(hS g).2 (.inl rfl), _, h.blk⟩ 14 _, fun k hk => ?_, fun k hk hs => ?_⟩
  · refine (h.rows y hy).2.1.far (p := ⟨g, 14, none⟩) (fun k hk => ?_) _
    obtain ⟨_, cur, hB⟩ := (h.rows y hy).2.1.foot_at k hk
    exact hB.apart h.blk (by decide)
  · obtain ⟨_, cur, hB⟩ := (h.rows y hy).2.1.foot_at k hk
    rcases hs with hs | hs | hs | hs | hs
    · exact hB.apart h.blk (by decide) hs
    · exact hB.apart hlb (by decide) hs
    · exact (h.rows y hy).2.2 k hk hs
    · obtain ⟨_, cur2, hB2⟩ := h.peers.foot_at k hs
      exact hB.apart hB2 (by decide) rfl
    · simp [foot] at hs
  · rcases hk with hk | hk | hk | hk | hk
    · exact (hS k).2 (.inl hk)
    · exact (hS k).2 (.inr (.inl hk))
    · exact (hS k).2 (.inr (.inr (.inl hk)))
    · exact (hS k).2 (.inr (.inr (.inr (.inl hk))))
    · simp [foot] at hk
  · obtain ⟨_, cur, hB⟩ := h.out.foot_at k hk
    rcases hs with hs | hs | hs | hs | hs
    · exact hB.apart h.blk (by decide) hs
    · exact hB.apart hlb (by decide) hs
    · obtain ⟨_, cur2, hB2⟩ := h.log.foot_at k hs
      exact hB.apart hB2 (by decide) rfl
    · obtain ⟨_, cur2, hB2⟩ := h.peers.foot_at k hs
      exact hB.apart hB2 (by decide) rfl
    · simp [foot] at hs

set_option maxRecDepth 100000 in
/-- (*raft.Node).Out -/
theorem nOut_any (base g : Nat) (x : NodeM) (S : Nat → Prop) (w : World) (h : NodeAt w base g x S) (hn : 0 < x.n) :
    Calls Try.prog 38 #[.pointer (some ⟨g, 0, none⟩)] w (OutRet w base g x S) := by
  obtain ⟨L, hL, hS⟩ := h.cell
  obtain ⟨_, _, _, ⟨_, _, c14, _, _⟩⟩ := hL.cells
  have f14 := hL.blk.frozen 14
  have HMA := Lib.hid (made_any base g x S w h hn)
  have HR := Lib.hid (hL.outs hS)
  clear hL hS h hn
  go_enter Try.func38, Try.ntmps38
  go_wp2_with (first | (refine HMA.out.mono ?_; rintro e w2 ⟨rfl, rfl⟩))
  go_ret
  exact HR.out
end Go.Proofs.Ytlggkeoihpcdiaa
