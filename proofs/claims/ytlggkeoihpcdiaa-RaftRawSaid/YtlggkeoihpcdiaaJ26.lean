/- The calls of a node to which anything may come, out of what is known of it always. -/
import Derived.Test.YtlggkeoihpcdiaaJ13
import Derived.Test.YtlggkeoihpcdiaaJ15
import Derived.Test.YtlggkeoihpcdiaaJ20
import Derived.Test.YtlggkeoihpcdiaaJ22
import Derived.Test.YtlggkeoihpcdiaaJ25
namespace Go.Proofs.Ytlggkeoihpcdiaa
open Go.RowKit

/-- (*raft.Node).Tick -/
theorem rawTick_any (B : Int) (base g : Nat) (x : NodeM) (dr : Int) (S : Nat → Prop) (w : World) (h : NodeAt w base g x S) (hx : RawInv B x) (hB9 : B ≤ 1000) (ho : x.out = []) (hB : base ≤ w.heap.size) :
    Calls Try.prog 29 #[.pointer (some ⟨g, 0, none⟩), .int .i64 dr] w fun e w' => e = .returned (.tuple #[]) ∧ NMoves0 w base g S (tickF x dr) w' :=
  (tick_any base g x dr S w h hx.be0 hx.el0 (by have := hx.el1; omega) hx.s0 (by have := hx.s1; omega) hx.heard hx.t0 hx.n0 hx.n7 hx.id0 hx.id1 (by have := hx.len; omega) hB (by rw [ho]; simp) (fun h3 => by have := (hx.lead h3).1; omega) (fun h3 p hp => by have := (hx.lead h3).2 p hp; have := hx.len; omega)).mono fun e w' h9 => ⟨h9.1, h9.2.to0⟩
/-- (*raft.Node).Propose -/
theorem rawPropose_any (B : Int) (base g : Nat) (x : NodeM) (s : ByteArray) (S : Nat → Prop) (w : World) (h : NodeAt w base g x S) (hx : RawInv B x) (ho : x.out = []) (hB : base ≤ w.heap.size) :
    Calls Try.prog 32 #[.pointer (some ⟨g, 0, none⟩), .string s] w fun e w' => e = .returned (.tuple #[.int .i64 ((proposeF x s).2.1 : Int), .int .i64 ((proposeF x s).2.2 : Int)]) ∧ NMoves0 w base g S (proposeF x s).1 w' :=
  (propose_any base g x s S w h hx.n0 hx.n7 hx.id0 hx.id1 (by have := hx.len; omega) hB (by rw [ho]; simp) (fun h3 => (hx.lead h3).1) (fun h3 p hp => by have := (hx.lead h3).2 p hp; have := hx.len; omega)).mono fun e w' h9 => ⟨h9.1, h9.2.to0⟩
/-- (*raft.Node).Step -/
theorem rawStep_any (B : Int) (base g : Nat) (x : NodeM) (m : MsgM) (A : Option Addr) (n c : Nat) (S : Nat → Prop) (w : World) (h : NodeAt w base g x S) (hx : RawInv B x) (ho : x.out = []) (hs : Ents w base A m.es) (hln : m.es.length = n) (hnc : n ≤ c) (hmi0 : -9223372036854775808 ≤ m.i) (hmi1 : m.i ≤ 9223372036854775807) (hB : base ≤ w.heap.size) :
    Calls Try.prog 30 #[.pointer (some ⟨g, 0, none⟩), .agg #[.int .i64 m.k, .int .i64 m.f, .int .i64 m.t, .int .i64 m.term, .int .i64 m.i, .int .i64 m.lt, .int .i64 m.c, .bool m.yes, .slice A n c]] w fun e w' => e = .returned (.tuple #[]) ∧ NMoves0 w base g S (stepF x m) w' := by
  have hs2 : Ents w w.heap.size A m.es := Sees.more hs hB
  have hl := hx.len
  have ho2 : x.out.length ≤ 0 := by rw [ho]; simp
  unfold stepF
  by_cases h1 : m.k = 1
  · rw [if_pos h1]
    exact (step1_any base g x m h1 A n c S w h hx.n0 hx.n7 hs hln (by omega) hB (by omega)).mono fun e w' h9 => ⟨h9.1, h9.2.to0⟩
  rw [if_neg h1]
  by_cases h2 : m.k = 2
  · rw [if_pos h2]
    exact (step2_any base g x m h2 A n c S w h hx.n0 hx.n7 hs2 hln hx.yes hx.id0 hx.id1 hx.t0 hx.t1 (by omega) hB (by omega)).mono fun e w' h9 => ⟨h9.1, h9.2.to0⟩
  rw [if_neg h2]
  by_cases h3 : m.k = 3
  · rw [if_pos h3]
    exact (step3_any base g x m h3 A n c S w h hx.n0 hx.n7 hs2 hln (by omega) hB (by omega)).mono fun e w' h9 => ⟨h9.1, h9.2.to0⟩
  rw [if_neg h3]
  by_cases h4 : m.k = 4
  · rw [if_pos h4]
    exact (step4_any base g x m h4 A n c S w h hx.n0 hx.n7 hs2 hln hx.yes hx.id0 hx.id1 (by omega) hB (by omega)).mono fun e w' h9 => ⟨h9.1, h9.2.to0⟩
  rw [if_neg h4]
  by_cases h5 : m.k = 5
  · rw [if_pos h5]
    exact (step5_any base g x m h5 A n c S w h hx.n0 hx.n7 hs hln hnc hmi0 hmi1 hx.c0 (by omega) hB (by omega)).mono fun e w' h9 => ⟨h9.1, h9.2.to0⟩
  rw [if_neg h5]
  by_cases h6 : m.k = 6
  · rw [if_pos h6]
    exact step6_any base g x m h6 A n c S w h hx.n0 hx.n7 hs2 hln hx.heard hx.id0 hx.id1 (fun h9 => ⟨(hx.lead h9).1, fun p hp => by have := (hx.lead h9).2 p hp; omega, fun p hp => by have := (hx.lead h9).2 p hp; omega⟩) hmi0 (by omega) hB (by omega)
  rw [if_neg h6]
  exact (step0_any base g x m (by omega) A n c S w h hx.n0 hx.n7 hs2 hln).mono fun e w' h9 => ⟨h9.1, h9.2.to0⟩

/-! ### what was saved, one save upon another -/
/-- what was kept agrees with the node, as far as it was saved -/
structure KeptOf (x : NodeM) (k : StP) : Prop where
  hard : x.fresh = false → k.t = x.term ∧ k.v = x.vote
  all : x.fr = 0 → k.es = x.log
  some : 0 < x.fr → x.fr - 1 ≤ k.es.length ∧ k.es.take (x.fr - 1).toNat = x.log.take (x.fr - 1).toNat
theorem KeptOf.adv {x y : NodeM} {k : StP} (h : KeptOf x k) (a : Adv x y) (hx : 0 ≤ x.fr) (_hy : 0 ≤ y.fr) : KeptOf y k := by
  refine ⟨fun e => ?_, fun e => ?_, fun e => ?_⟩
  · obtain ⟨h1, h2, h3⟩ := a.fresh e
    obtain ⟨h4, h5⟩ := h.hard h1
    exact ⟨h4.trans h2.symm, h5.trans h3.symm⟩
  · obtain ⟨h1, h2⟩ := a.fr0 e
    exact (h.all h1).trans h2.symm
  · obtain ⟨h1, h2, h3⟩ := a.fr1 e
    by_cases h0 : x.fr = 0
    · have h4 := h.all h0
      rw [h4]
      exact ⟨h3 h0, h2.symm⟩
    · have hle : y.fr ≤ x.fr := by rcases h1 with h1 | h1; exact absurd h1 h0; exact h1
      obtain ⟨h4, h5⟩ := h.some (by omega)
      exact ⟨by omega, (take_less h5 (by omega)).trans h2.symm⟩
/-- what is kept behind a save -/
def keptF (x : NodeM) (k : StP) : StP := ⟨if x.fresh then x.term else k.t, if x.fresh then x.vote else k.v, if 0 < x.fr then k.es.take (x.fr - 1).toNat ++ x.log.drop (x.fr - 1).toNat else k.es⟩
theorem kept_all {x : NodeM} {k : StP} (h : KeptOf x k) (h0 : 0 ≤ x.fr) : keptF x k = ⟨x.term, x.vote, x.log⟩ := by
  unfold keptF
  have h1 : (if x.fresh then x.term else k.t) = x.term := by
    cases hf : x.fresh
    · exact (h.hard hf).1
    · rfl
  have h2 : (if x.fresh then x.vote else k.v) = x.vote := by
    cases hf : x.fresh
    · exact (h.hard hf).2
    · rfl
  have h3 : (if 0 < x.fr then k.es.take (x.fr - 1).toNat ++ x.log.drop (x.fr - 1).toNat else k.es) = x.log := by
    split
    · rename_i h9
      rw [(h.some h9).2, List.take_append_drop]
    · exact h.all (by omega)
  rw [h1, h2, h3]
theorem KeptOf.saved {x : NodeM} : KeptOf (savedF x) ⟨x.term, x.vote, x.log⟩ := ⟨fun _ => ⟨rfl, rfl⟩, fun _ => rfl, fun h => absurd h (by simp [savedF])⟩
theorem save_entries {x : NodeM} (h0 : 0 < x.fr) (hl : x.log.length ≤ 1024) : saveEs x = x.log.drop (x.fr - 1).toNat := by
  unfold saveEs fromF fromN
  rw [if_pos h0]
  simp only
  rw [List.take_of_length_le (by rw [List.length_drop]; omega)]
  by_cases h9 : x.fr - 1 ≤ x.log.length
  · congr 1
    omega
  · rw [List.drop_eq_nil_of_le (by omega), List.drop_eq_nil_of_le (by omega)]
theorem RawInv.saved {B : Int} {x : NodeM} (h : RawInv B x) : RawInv B (savedF x) := ⟨h.n0, h.n7, h.id0, h.id1, h.el0, h.el1, h.be0, h.t0, h.t1, h.v0, h.v1, h.ok, h.len, h.c0, h.c1, by simp [savedF], by simp [savedF], h.yes, h.heard, h.s0, h.s1, h.r1, h.r23, h.lead⟩
theorem RawInv.quiet {B : Int} {x : NodeM} (h : RawInv B x) : RawInv B { x with out := [] } := ⟨h.n0, h.n7, h.id0, h.id1, h.el0, h.el1, h.be0, h.t0, h.t1, h.v0, h.v1, h.ok, h.len, h.c0, h.c1, h.f0, h.f1, h.yes, h.heard, h.s0, h.s1, h.r1, h.r23, h.lead⟩
theorem RawInv.right {B : Int} {x : NodeM} (h : RawInv B x) : rightS ⟨x.term, x.vote, x.log⟩ = true := by
  rw [rightS_e _ ⟨h.t0, h.t1⟩ ⟨h.v0, h.v1⟩ h.len]
  exact h.ok.to
theorem committed_take (x : NodeM) (h0 : 0 ≤ x.commit) (h1 : x.commit ≤ x.log.length) : committedF x 1 = x.log.take x.commit.toNat := by
  unfold committedF fromF fromN
  have e1 : (min (max (max 1 1) 1 - 1) (x.log.length : Int)).toNat = 0 := by omega
  have e2 : (min (max (x.commit - max 1 1 + 1) 0) ((x.log.length : Int) - min (max (max 1 1) 1 - 1) (x.log.length : Int))).toNat = x.commit.toNat := by omega
  simp only [e1, e2, List.drop_zero]
theorem raw_new (id n el be : Int) (h1 : 1 ≤ n ∧ n ≤ 7) (h2 : 0 ≤ id ∧ id ≤ n - 1) (h3 : 1 ≤ el ∧ el ≤ 1000) (h4 : 1 ≤ be ∧ be ≤ el) : RawInv 0 (newF id n el be ⟨0, -1, []⟩) := by
  refine ⟨by simp only [newF]; omega, h1.2, h2.1, by simp only [newF]; omega, h3.1, h3.2, h4.1, Int.le_refl _, by simp [newF], by simp [newF], by simp [newF], Okl.nil _, by simp [newF], Int.le_refl _, by simp [newF], Int.le_refl _, by simp [newF], by simp [newF], by simp [newF], Int.le_refl _, Int.le_refl _, fun h => absurd h (by simp [newF]), fun h => absurd h (by simp [newF]), fun h => absurd h (by simp [newF])⟩
end Go.Proofs.Ytlggkeoihpcdiaa

/- RaftRaw's few; and how its acts read. -/
namespace Go.Proofs.Ytlggkeoihpcdiaa
open Go.RowKit Go.ChangeShapes Go.WideShapes Go.ChangeAt Go.Deep Go.Joins

def okFew (e : Ent) : Bool := decide (e.s.size ≤ 600)
def fewF (m : MsgM) : Bool := m.es.all okFew && decide (m.es.length ≤ 12)
theorem few_bad {es : List Ent} {k : Nat} (hk : k < es.length) (h : okFew es[k] = false) : es.all okFew = false := by
  rw [← Bool.not_eq_true, List.all_eq_true]
  intro h9
  rw [h9 _ (List.getElem_mem hk)] at h
  cases h
theorem few_good {es : List Ent} (h : ∀ (j : Nat) (hj : j < es.length), okFew es[j] = true) : es.all okFew = true := by
  rw [List.all_eq_true]
  intro e he
  obtain ⟨j, hj, rfl⟩ := List.mem_iff_getElem.1 he
  exact h j hj
set_option maxRecDepth 100000 in
set_option maxHeartbeats 1600000 in
/-- kissinggatelaw08.few -/
theorem few8_any (m : MsgM) (A : Option Addr) (n c : Nat) (w : World) (hs : Ents w w.heap.size A m.es) (hl : m.es.length = n) (hn : n ≤ maxLen) :
    Calls Try.prog 28 #[.agg #[.int .i64 m.k, .int .i64 m.f, .int .i64 m.t, .int .i64 m.term, .int .i64 m.i, .int .i64 m.lt, .int .i64 m.c, .bool m.yes, .slice A n c]] w fun e w' => e = .returned (.bool (fewF m)) ∧ Below w.heap.size w w' := by
  have hM := Blk.new w 61 #[.int .i64 m.k, .int .i64 m.f, .int .i64 m.t, .int .i64 m.term, .int .i64 m.i, .int .i64 m.lt, .int .i64 m.c, .bool m.yes, .slice A n c]
  have hb0 := (Below.refl w.heap.size w).alloc (Nat.le_refl _) (.cells #[.int .i64 m.k, .int .i64 m.f, .int .i64 m.t, .int .i64 m.term, .int .i64 m.i, .int .i64 m.lt, .int .i64 m.c, .bool m.yes, .slice A n c] 61)
  have HM := Lib.hid hM
  have HB0 := Lib.hid hb0
  have HS := Lib.hid (Sees.on hs hb0)
  have HLN := Lib.hid hl
  have HNN := Lib.hid (show (n : Int) ≤ 9223372036854775807 by have : maxLen = 9223372036854775807 := rfl; omega)
  have hfw : fewF m = (m.es.all okFew && decide (m.es.length ≤ 12)) := rfl
  generalize fewF m = z at *
  have HF := Lib.hid hfw
  clear hM hb0 hs hl hn hfw
  go_enter Try.func28, Try.ntmps28
  go_upto_region 1 with (fail)
  generalize w.alloc (.cells #[.int .i64 m.k, .int .i64 m.f, .int .i64 m.t, .int .i64 m.term, .int .i64 m.i, .int .i64 m.lt, .int .i64 m.c, .bool m.yes, .slice A n c] 61) = w0 at *
  have e8 := (msg_cells HM.out).2.2.2
  go_wp2_with fail
  clear e8
  go_loopw [8] (fun iv wr => ∃ k : Nat, k ≤ n ∧ iv = .int .i64 (k : Int) ∧ (∀ (j : Nat) (hj : j < m.es.length), j < k → okFew m.es[j] = true) ∧ Below w0.heap.size w0 wr) (fun iv _ => n - (intOf iv).toNat)
  case atStart => exact ⟨0, Nat.zero_le _, rfl, (fun j _ h => absurd h (by omega)), Below.refl _ _⟩
  case round =>
    obtain ⟨k, hk, rfl, hup, hbel⟩ := hrel
    by_cases hlt : k < n
    · have hkl : k < m.es.length := by rw [HLN.out]; exact hlt
      obtain ⟨b, off, hA, hbl, d0, d1⟩ := Ents.at_ HS.out hkl
      subst hA
      have d0' := (hbel.cell (p := ⟨b, off + k * 2, none⟩) hbl).trans d0
      have d1' := (hbel.cell (p := ⟨b, off + k * 2 + 1, none⟩) hbl).trans d1
      have hlt' : (k : Int) < (n : Int) := by omega
      have hk1 : (k : Int) + 1 ≤ 9223372036854775807 := by have := HNN.out; omega
      have HUP := Lib.hid hup
      obtain ⟨y, hy⟩ : ∃ y, m.es[k] = y := ⟨_, rfl⟩
      rw [hy] at d0' d1'
      have HBAD := Lib.hid (show okFew y = false → z = false from fun h => by rw [HF.out, few_bad hkl (by rw [hy]; exact h)]; rfl)
      have HY := Lib.hid hy
      have hA2 := Blk.new wr 73 #[.int .i64 y.t, .string y.s]
      have HB2 := Lib.hid (hbel.alloc hbel.size (.cells #[.int .i64 y.t, .string y.s] 73))
      have g1 : (wr.alloc (.cells #[.int .i64 y.t, .string y.s] 73)).cell? ⟨wr.heap.size, 1, none⟩ = some (.string y.s) := by rw [hA2.cell]; rfl
      have HK := Lib.hid hlt
      clear d0 d1 hup hy hA2 hbl hk hlt hbel
      by_cases h9 : (600 : Int) < (y.s.size : Int)
      · have HZ := Lib.hid (HBAD.out (decide_eq_false (by omega)))
        go_wp2_with fail
        go_ret
        rw [HZ.out]
        exact ⟨rfl, HB0.out.trans (HB2.out.mono HB0.out.size)⟩
      · have HG := Lib.hid (show okFew y = true from decide_eq_true (by omega))
        go_wp2_with fail
        go_roundw
        case rel =>
          refine ⟨k + 1, HK.out, by go_num, fun j hj hjk => ?_, HB2.out⟩
          by_cases e : j = k
          · subst e
            have h8 := HY.out
            rw [h8]
            exact HG.out
          · exact HUP.out j hj (by omega)
        case measure => have := HK.out; simp [intOf]; omega
    · have hlt' : ¬ (k : Int) < (n : Int) := by omega
      have hall := few_good (es := m.es) (fun j hj => hup j hj (by rw [HLN.out] at hj; omega))
      have HZ := Lib.hid (show z = decide ((n : Int) ≤ 12) by rw [HF.out, hall, HLN.out, Bool.true_and]; exact decide_eq_decide.2 (by omega))
      have HFB := Lib.hid (HB0.out.trans (hbel.mono HB0.out.size))
      have e8 := (msg_cells (HM.out.below hbel HM.out.lt)).2.2.2
      clear hup hall hbel hk hlt
      by_cases h12 : (n : Int) ≤ 12
      · go_wp2_with fail
        go_ret
        rw [HZ.out, decide_eq_true h12]
        exact ⟨rfl, HFB.out⟩
      · go_wp2_with fail
        go_ret
        rw [HZ.out, decide_eq_false (show ¬ (n : Int) ≤ 12 by omega)]
        exact ⟨rfl, HFB.out⟩

/-- an act, read out of memory -/
structure RawL where
  kind : Int
  draw : Int
  m : MsgL
  s : ByteArray
def RawL.cells (v : RawL) : List Value := [.int .u8 v.kind, .int .i64 v.draw] ++ v.m.cells ++ [.string v.s]
/-- a row of acts below B: each has twelve cells -/
def RawsL (w : World) (B : Nat) (A : Option Addr) (n : Nat) (f : Nat → RawL) : Prop :=
  (∀ j, j < n → (0 ≤ (f j).kind ∧ (f j).kind ≤ 255) ∧ ((f j).m.m.es.length = (f j).m.n ∧ (f j).m.n ≤ (f j).m.c ∧ (f j).m.c ≤ maxLen ∧ Ents w B (f j).m.A (f j).m.m.es) ∧ -9223372036854775808 ≤ (f j).m.m.i ∧ (f j).m.m.i ≤ 9223372036854775807) ∧
  (0 < n → ∃ b off, A = some ⟨b, off, none⟩ ∧ b < B ∧ ∀ j, j < n → ∀ i u, (f j).cells[i]? = some u → w.cell? ⟨b, off + j * 12 + i, none⟩ = some u)
def rl0 : RawL := ⟨0, 0, ml0, ⟨#[]⟩⟩
theorem ract_cells : Try.prog.cellsOf 63 = 12 := by kernel_rfl
theorem u8_cells8 : Try.prog.cellsOf 5 = 1 := by kernel_rfl

section
variable {H : Type} {enc : TypeId × Value → H} {w : World} {base : Nat} {spare : Nat → Bool} {held : Bool}
set_option maxRecDepth 100000 in
theorem open_raws {fuel : Nat} {a : Option Addr} {len cap : Nat} {y : DataW H × List MemPlace}
    (h : DataW.trod enc Try.prog w base spare held fuel 56 (Value.slice a len cap).cells.toList = some y) :
    len ≤ cap ∧ cap ≤ maxLen ∧ ∃ f, RawsL w w.heap.size a len f := by
  rcases open_slice Try.underlying56 h with ⟨hcs, _⟩ | ⟨x, l, c, m, n, D, Pl, hcs, _, hl, hm, hmm, _, hi⟩
  · simp [Value.cells] at hcs
    obtain ⟨rfl, rfl, rfl⟩ := hcs
    exact ⟨Nat.le_refl _, by decide, fun _ => rl0, fun j hj => absurd hj (by omega), fun hn => absurd hn (by omega)⟩
  · simp [Value.cells] at hcs
    obtain ⟨rfl, rfl, rfl⟩ := hcs
    rw [ract_cells] at hi
    have hone : ∀ i, i < len → ∃ v : RawL, ((0 ≤ v.kind ∧ v.kind ≤ 255) ∧ (v.m.m.es.length = v.m.n ∧ v.m.n ≤ v.m.c ∧ v.m.c ≤ maxLen ∧ Ents w w.heap.size v.m.A v.m.m.es) ∧ -9223372036854775808 ≤ v.m.m.i ∧ v.m.m.i ≤ 9223372036854775807) ∧ ∀ j u, v.cells[j]? = some u → w.cell? ((x.add (i * 12)).add j) = some u := by
      intro i hil
      obtain ⟨cs', hc, ht⟩ := hi i (by rw [hmm]; split <;> omega)
      obtain ⟨_, hlen, hat⟩ := World.cells?_some hc
      match cs', hlen with
      | [v0, v1, v2, v3, v4, v5, v6, v7, v8, v9, v10, v11], _ =>
      obtain ⟨xs, n', _, _, _, hxl, hf⟩ := DataW.trod_struct Try.underlying63 ht
      match xs, hxl with
      | [y0, y1, y2, y3], _ =>
      have f0 := hf 0 _ rfl
      have f1 := hf 1 _ rfl
      have f2 := hf 2 _ rfl
      have f3 := hf 3 _ rfl
      simp [u8_cells8, i64_cells, msg_cellsOf, str_cellsOf] at f0 f1 f2 f3
      obtain ⟨kd, e0, _, w0⟩ := DataW.trod_int Try.underlying5 f0
      simp at e0
      subst e0
      obtain ⟨dr, rfl, _⟩ := open_cell_int f1
      obtain ⟨s, hs, ⟨h3, h4, h5, h6⟩, ⟨b1, b2⟩, _⟩ := open_msg_cells f2
      obtain ⟨str, rfl⟩ := open_cell_str f3
      have hb := bounds_u8 w0
      refine ⟨⟨kd, dr, s, str⟩, ⟨⟨hb.1, hb.2⟩, ⟨h5, h3, h4, h6⟩, b2, b1⟩, fun j u hu => ?_⟩
      have hcl : (RawL.mk kd dr s str).cells = [.int .u8 kd, .int .i64 dr, v2, v3, v4, v5, v6, v7, v8, v9, v10, .string str] := by
        unfold RawL.cells
        rw [← hs]
        rfl
      rw [hcl] at hu
      have hj : j < 12 := by
        have := (List.getElem?_eq_some_iff.1 hu).1
        simpa using this
      rw [hat j (by simpa using hj)]
      exact hu
    refine ⟨hl, hm, fun i => if h : i < len then (hone i h).choose else rl0, ?_, ?_⟩
    · intro j hj
      simp only [dif_pos hj]
      exact (hone j hj).choose_spec.1
    · intro hn
      obtain ⟨b, off, spot⟩ := x
      have h00 := (hone 0 hn).choose_spec.2 0 _ rfl
      have hspot : spot = none := by
        simpa [Addr.add] using World.cell?_spot h00
      subst hspot
      refine ⟨b, off, rfl, World.block_lt_of_cell? w _ h00 |> (fun h => by simpa [Addr.add] using h), fun j hj i u hu => ?_⟩
      simp only [dif_pos hj] at hu
      have h5 := (hone j hj).choose_spec.2 i u hu
      have ea : (Addr.add ⟨b, off, none⟩ (j * 12)).add i = ⟨b, off + j * 12 + i, none⟩ := by rw [Go.WideShapes.add_plain, Go.WideShapes.add_plain]
      exact (congrArg w.cell? ea).symm.trans h5
end
end Go.Proofs.Ytlggkeoihpcdiaa

/- For RaftRaw: rows of entries beside a node, and what of both a call leaves. -/
namespace Go.Proofs.Ytlggkeoihpcdiaa
open Go.RowKit

/-- a row of entries that the node's calls don't turn -/
def Kept (S : Nat → Prop) (w : World) (A : Option Addr) (es : List Ent) : Prop :=
  0 < es.length → ∃ b off, A = some ⟨b, off, none⟩ ∧ b < w.heap.size ∧ ¬ S b ∧ ∀ j u, (ecs es)[j]? = some u → w.cell? ⟨b, off + j, none⟩ = some u
/-- the node, beside two rows: what was committed, and what was kept -/
structure Mid (base K g : Nat) (S : Nat → Prop) (y : NodeM) (A1 : Option Addr) (es1 : List Ent) (kp : StP) (A2 : Option Addr) (n2 c2 : Nat) (w w' : World) : Prop where
  node : NodeAt w' base g y S
  com : Kept (fun i => S i ∨ i = K) w' A1 es1
  kb : Blk w' K 25 #[.int .i64 kp.t, .int .i64 kp.v, .slice A2 n2 c2]
  kr : Kept (fun i => S i ∨ i = K) w' A2 kp.es
  kl : kp.es.length = n2
  kc : n2 ≤ c2
  b0 : w.heap.size ≤ base
  below : Below w.heap.size w w'
  size : base ≤ w'.heap.size
  kz : base ≤ K
section
variable {base K g n n2 c c2 : Nat} {S S' : Nat → Prop} {x y : NodeM} {A A1 A2 : Option Addr} {es es1 : List Ent} {kp : StP} {w w' w'' : World}
theorem Kept.ents (h : Kept S w A es) : Ents w w.heap.size A es := by
  refine ⟨ecs_length es, fun h0 => ?_⟩
  obtain ⟨b, off, h1, h2, _, h4⟩ := h (by omega)
  exact ⟨b, off, h1, h2, h4⟩
theorem Kept.on (h : Kept S w A es) (hb : Below w.heap.size w w') : Kept S w' A es := fun h0 => by
  obtain ⟨b, off, h1, h2, h3, h4⟩ := h h0
  exact ⟨b, off, h1, Nat.lt_of_lt_of_le h2 hb.size, h3, fun j u hu => (hb.cell (p := ⟨b, off + j, none⟩) h2).trans (h4 j u hu)⟩
theorem Kept.turn (h : Kept S w A es) (ht : Turn0 S w w') (hs : ∀ i, S' i → S i ∨ (w.heap.size ≤ i ∧ i < w'.heap.size)) : Kept S' w' A es := fun h0 => by
  obtain ⟨b, off, h1, h2, h3, h4⟩ := h h0
  refine ⟨b, off, h1, Nat.lt_of_lt_of_le h2 ht.size, fun hk => ?_, fun j u hu => (World.cell?_of_block (a := ⟨b, off + j, none⟩) (ht.block b h2 h3)).trans (h4 j u hu)⟩
  rcases hs b hk with h9 | h9
  · exact h3 h9
  · omega
theorem Kept.turnK (h : Kept (fun i => S i ∨ i = K) w A es) (ht : Turn0 S w w') (hs : ∀ i, S' i → S i ∨ (w.heap.size ≤ i ∧ i < w'.heap.size)) (_hk : ¬ S K ∧ K < w.heap.size) : Kept (fun i => S' i ∨ i = K) w' A es := fun h0 => by
  obtain ⟨b, off, h1, h2, h3, h4⟩ := h h0
  refine ⟨b, off, h1, Nat.lt_of_lt_of_le h2 ht.size, fun hb => ?_, fun j u hu => (World.cell?_of_block (a := ⟨b, off + j, none⟩) (ht.block b h2 (fun h9 => h3 (.inl h9)))).trans (h4 j u hu)⟩
  rcases hb with hb | hb
  · rcases hs b hb with h9 | h9
    · exact h3 (.inl h9)
    · exact absurd h2 (by omega)
  · exact h3 (.inr hb)
/-- a cell of the block K turns -/
theorem Kept.kset (h : Kept (fun i => S i ∨ i = K) w A es) (i : Nat) (u : Value) : Kept (fun i => S i ∨ i = K) (w.setCell ⟨K, i, none⟩ u) A es := fun h0 => by
  obtain ⟨b, off, h1, h2, h3, h4⟩ := h h0
  refine ⟨b, off, h1, by simpa [World.setCell] using h2, h3, fun j v hv => ?_⟩
  rw [World.cell?_of_block (a := ⟨b, off + j, none⟩) (w := w) (Below.heap_setCell w ⟨K, i, none⟩ u b (fun e => h3 (.inr e)))]
  exact h4 j v hv
theorem Kept.sub (h : Kept S w A es) (hs : ∀ i, S' i → S i) : Kept S' w A es := fun h0 => by
  obtain ⟨b, off, h1, h2, h3, h4⟩ := h h0
  exact ⟨b, off, h1, h2, fun hk => h3 (hs b hk), h4⟩
theorem Kept.of_free {B : Nat} (h : FreeN 2 w B 73 A n c (ecs es)) (hl : es.length = n) (hn : ∀ k, foot A c = some k → ¬ S k) : Kept S w A es := fun h0 => by
  obtain ⟨b, off, cur, rfl, _, hB, _, hx⟩ := h.2.2.2 (by have := h.2.1; omega)
  refine ⟨b, off, rfl, hB.lt, hn b (by unfold foot; rw [if_pos (by have := h.2.1; omega)]; rfl), fun j u hu => ?_⟩
  have hj := (List.getElem?_eq_some_iff.1 hu).1
  rw [ecs_length, hl] at hj
  rw [hB.cell, hx j hj]
  exact hu
theorem Kept.nil (S : Nat → Prop) (w : World) (A : Option Addr) : Kept S w A [] := fun h0 => absurd h0 (by simp)
theorem Kept.set_ (h : Kept S w A es) {p : Addr} {t : TypeId} {cs : Array Value} (hB : Blk w p.block t cs) (hne : t ≠ 73) (hr : 0 < es.length → ∀ a, A = some a → ∃ cur, Blk w a.block 73 cur) (u : Value) : Kept S (w.setCell p u) A es := fun h0 => by
  obtain ⟨b, off, h1, h2, h3, h4⟩ := h h0
  obtain ⟨cur, hC⟩ := hr h0 _ h1
  have hbp : b ≠ p.block := fun e => by
    have e2 : (⟨b, off, none⟩ : Addr).block = p.block := e
    rw [e2] at hC
    exact hne (hB.type_eq hC)
  refine ⟨b, off, h1, by simpa [World.setCell] using h2, h3, fun j v hv => ?_⟩
  rw [World.cell?_of_block (a := ⟨b, off + j, none⟩) (w := w) (Below.heap_setCell w p u b hbp)]
  exact h4 j v hv
theorem Mid.on (h : Mid base K g S y A1 es1 kp A2 n2 c2 w w') (hb : Below w'.heap.size w' w'') : Mid base K g S y A1 es1 kp A2 n2 c2 w w'' :=
  ⟨h.node.on hb, h.com.on hb, h.kb.below hb h.kb.lt, h.kr.on hb, h.kl, h.kc, h.b0, h.below.trans (hb.mono h.below.size), Nat.le_trans h.size hb.size, h.kz⟩
theorem Mid.notOf (h : Mid base K g S y A1 es1 kp A2 n2 c2 w w') {b : Nat} {t : TypeId} {cs : Array Value} (hB : Blk w' b t cs) (h1 : 109 ≠ t) (h2 : 131 ≠ t) (h3 : 73 ≠ t) (h4 : 152 ≠ t) (h5 : 61 ≠ t) : ¬ S b := h.node.notOf hB h1 h2 h3 h4 h5
theorem Mid.turns (h : Mid base K g S x A1 es1 kp A2 n2 c2 w w') (h1 : NodeAt w'' base g y S') (h2 : Turn0 S w' w'') (h3 : ∀ i, S' i → S i ∨ (w'.heap.size ≤ i ∧ i < w''.heap.size)) : Mid base K g S' y A1 es1 kp A2 n2 c2 w w'' := by
  have hk := h.notOf h.kb (by decide) (by decide) (by decide) (by decide) (by decide)
  exact ⟨h1, h.com.turnK h2 h3 ⟨hk, h.kb.lt⟩, h2.blk h.kb hk, h.kr.turnK h2 h3 ⟨hk, h.kb.lt⟩, h.kl, h.kc, h.b0, h.below.trans (h2.below h.below.size (fun k hk => Nat.le_trans h.b0 (h.node.base_has k hk))), Nat.le_trans h.size h2.size, h.kz⟩
theorem Mid.moves (h : Mid base K g S x A1 es1 kp A2 n2 c2 w w') (hm : NMoves0 w' base g S y w'') : ∃ S', Mid base K g S' y A1 es1 kp A2 n2 c2 w w'' ∧ Turn0 S w' w'' ∧ ∀ i, S' i → S i ∨ (w'.heap.size ≤ i ∧ i < w''.heap.size) := by
  obtain ⟨S', h1, h2, h3⟩ := hm
  exact ⟨S', h.turns h1 h2 h3, h2, h3⟩
/-- what was kept is another one -/
theorem Mid.kset (h : Mid base K g S y A1 es1 kp A2 n2 c2 w w') (i : Nat) (u : Value) {kq : StP} {A3 : Option Addr} {n3 c3 : Nat} (hc : (#[.int .i64 kp.t, .int .i64 kp.v, .slice A2 n2 c2] : Array Value).setIfInBounds i u = #[.int .i64 kq.t, .int .i64 kq.v, .slice A3 n3 c3]) (hr : Kept (fun i => S i ∨ i = K) w' A3 kq.es) (hl : kq.es.length = n3) (hn : n3 ≤ c3) : Mid base K g S y A1 es1 kq A3 n3 c3 w (w'.setCell ⟨K, i, none⟩ u) := by
  obtain ⟨L, hL, hS⟩ := h.node
  exact ⟨⟨L, hL.aside h.kb (by decide) (by decide) (by decide) (by decide) (by decide) i u, hS⟩, h.com.kset i u, by rw [← hc]; exact h.kb.set_ i u, hr.kset i u, hl, hn, h.b0, h.below.setCell (p := ⟨K, i, none⟩) (Nat.le_trans h.b0 h.kz) u, by simpa [World.setCell] using h.size, h.kz⟩
/-- a block of another type stays -/
theorem Mid.keeps (h : Mid base K g S x A1 es1 kp A2 n2 c2 w w') (ht : Turn0 S w' w'') {b : Nat} {t : TypeId} {cs : Array Value} (hB : Blk w' b t cs) (h1 : 109 ≠ t) (h2 : 131 ≠ t) (h3 : 73 ≠ t) (h4 : 152 ≠ t) (h5 : 61 ≠ t) : Blk w'' b t cs := ht.blk hB (h.notOf hB h1 h2 h3 h4 h5)
end
/-- an act in a block of its own -/
def actCells (kd dr : Int) (m : MsgM) (A : Option Addr) (n c : Nat) (s : ByteArray) : Array Value := #[.int .u8 kd, .int .i64 dr, .int .i64 m.k, .int .i64 m.f, .int .i64 m.t, .int .i64 m.term, .int .i64 m.i, .int .i64 m.lt, .int .i64 m.c, .bool m.yes, .slice A n c, .string s]
theorem ract_at {w : World} {G : Nat} {kd dr : Int} {m : MsgM} {A : Option Addr} {n c : Nat} {s : ByteArray} (h : Blk w G 63 (actCells kd dr m A n c s)) :
    (w.cell? ⟨G, 0, none⟩ = some (.int .u8 kd) ∧ w.cell? ⟨G, 1, none⟩ = some (.int .i64 dr) ∧ w.cell? ⟨G, 2, none⟩ = some (.int .i64 m.k) ∧ w.cell? ⟨G, 3, none⟩ = some (.int .i64 m.f) ∧ w.cell? ⟨G, 4, none⟩ = some (.int .i64 m.t) ∧ w.cell? ⟨G, 5, none⟩ = some (.int .i64 m.term)) ∧
    w.cell? ⟨G, 6, none⟩ = some (.int .i64 m.i) ∧ w.cell? ⟨G, 7, none⟩ = some (.int .i64 m.lt) ∧ w.cell? ⟨G, 8, none⟩ = some (.int .i64 m.c) ∧ w.cell? ⟨G, 9, none⟩ = some (.bool m.yes) ∧ w.cell? ⟨G, 10, none⟩ = some (.slice A n c) ∧ w.cell? ⟨G, 11, none⟩ = some (.string s) := by
  have hc := fun i => h.cell i
  exact ⟨⟨hc 0, hc 1, hc 2, hc 3, hc 4, hc 5⟩, hc 6, hc 7, hc 8, hc 9, hc 10, hc 11⟩
end Go.Proofs.Ytlggkeoihpcdiaa
