/- Plain facts of what a majority has: sorted, and counted. -/
import Derived.Test.YtlggkeoihpcdiaaJ12
import Derived.Test.YtlggkeoihpcdiaaJ18
namespace Go.Proofs.Ytlggkeoihpcdiaa
open Go.RowKit

/-- how many have at least i -/
def manyF (hs : List Int) (i : Int) : Nat := hs.countP fun h => decide (i ≤ h)
theorem med_up (zs : List Int) (hs : zs.Pairwise (· ≤ ·)) (p : Nat) (hp : p < zs.length) (i : Int) (h : i ≤ zs[p]) : zs.length - p ≤ manyF zs i := by
  unfold manyF
  have e : zs = zs.take p ++ zs.drop p := (List.take_append_drop p zs).symm
  rw [e, List.countP_append]
  have h2 : (zs.drop p).countP (fun h => decide (i ≤ h)) = (zs.drop p).length := by
    rw [List.countP_eq_length]
    intro a ha
    obtain ⟨j, hj, rfl⟩ := List.mem_iff_getElem.1 ha
    rw [List.getElem_drop]
    rw [List.length_drop] at hj
    have := List.pairwise_iff_getElem.1 hs
    rw [decide_eq_true_iff]
    rcases Nat.eq_zero_or_pos j with h0 | h0
    · subst h0
      exact h
    · have := this p (p + j) hp (by omega) (by omega)
      omega
  rw [h2, List.length_drop, ← e]
  omega
theorem med_down (zs : List Int) (hs : zs.Pairwise (· ≤ ·)) (p : Nat) (hp : p < zs.length) (i : Int) (h : zs[p] < i) : manyF zs i ≤ zs.length - 1 - p := by
  unfold manyF
  have e : zs = zs.take (p + 1) ++ zs.drop (p + 1) := (List.take_append_drop (p + 1) zs).symm
  rw [e, List.countP_append]
  have h2 : (zs.take (p + 1)).countP (fun h => decide (i ≤ h)) = 0 := by
    rw [List.countP_eq_zero]
    intro a ha
    obtain ⟨j, hj, rfl⟩ := List.mem_iff_getElem.1 ha
    rw [List.length_take] at hj
    rw [List.getElem_take]
    have := List.pairwise_iff_getElem.1 hs
    simp only [decide_eq_true_iff]
    rcases Nat.lt_or_ge j p with h0 | h0
    · have := this j p (by omega) hp h0
      omega
    · obtain rfl : j = p := by omega
      omega
  have h3 := List.countP_le_length (p := fun h => decide (i ≤ h)) (l := zs.drop (p + 1))
  rw [List.length_drop] at h3
  rw [h2, ← e]
  omega
theorem med_iff (hs : List Int) (k : Nat) (hk : hs.length = k) (hk0 : 0 < k) (i : Int) : k < 2 * manyF hs i ↔ i ≤ (hs.mergeSort fun a b => decide (a ≤ b)).getD ((k - 1) / 2) 0 := by
  have hperm := List.mergeSort_perm hs (fun a b => decide (a ≤ b))
  have hsort : (hs.mergeSort fun a b => decide (a ≤ b)).Pairwise (· ≤ ·) := by
    have h9 := List.pairwise_mergeSort (le := fun (a b : Int) => decide (a ≤ b)) (fun a b c h1 h2 => by simp only [decide_eq_true_iff] at *; omega) (fun a b => by simp only [Bool.or_eq_true, decide_eq_true_iff]; omega) hs
    exact h9.imp (fun h => by simpa using h)
  have hc : manyF hs i = manyF (hs.mergeSort fun a b => decide (a ≤ b)) i := (hperm.countP_eq _).symm
  have hl : (hs.mergeSort fun a b => decide (a ≤ b)).length = k := by rw [hperm.length_eq, hk]
  rw [hc]
  generalize (hs.mergeSort fun a b => decide (a ≤ b)) = zs at *
  have hp : (k - 1) / 2 < zs.length := by omega
  have hg : zs.getD ((k - 1) / 2) 0 = zs[(k - 1) / 2] := by rw [List.getD_eq_getElem?_getD, List.getElem?_eq_getElem hp]; rfl
  rw [hg]
  constructor
  · intro h
    rcases Int.lt_or_le zs[(k - 1) / 2] i with h9 | h9
    · have := med_down zs hsort _ hp i h9
      omega
    · exact h9
  · intro h
    have := med_up zs hsort _ hp i h
    omega
theorem many_mono (a b : List Int) (hl : a.length = b.length) (h : ∀ j (h1 : j < a.length) (h2 : j < b.length), a[j] ≤ b[j]) (i : Int) : manyF a i ≤ manyF b i := by
  induction a generalizing b with
  | nil => exact Nat.zero_le _
  | cons x a ih =>
    cases b with
    | nil => simp at hl
    | cons y b =>
      have h0 : x ≤ y := h 0 (by simp) (by simp)
      have h1 := ih b (by simpa using hl) (fun j h1 h2 => h (j + 1) (by simpa using h1) (by simpa using h2))
      unfold manyF at *
      rw [List.countP_cons, List.countP_cons]
      have h2 : (if decide (i ≤ x) = true then 1 else 0) ≤ (if decide (i ≤ y) = true then 1 else 0) := by
        by_cases h3 : i ≤ x
        · rw [if_pos (decide_eq_true h3), if_pos (decide_eq_true (show i ≤ y by omega))]
          exact Nat.le_refl _
        · rw [if_neg (by rw [decide_eq_false h3]; simp)]
          exact Nat.zero_le _
      omega

/-- what each has: itself all -/
def hasL (x : NodeM) (k : Nat) : List Int := (hasK x k k).set x.id.toNat x.log.length
theorem hasL_length (x : NodeM) (k : Nat) : (hasL x k).length = k := by unfold hasL; rw [List.length_set, hasK_length]
theorem most_iff (x : NodeM) (k : Nat) (hk : x.n = (k : Int)) (hk0 : 0 < k) (i : Int) : k < 2 * manyF (hasL x k) i ↔ i ≤ mostHas x := by
  have h := med_iff (hasL x k) k (hasL_length x k) hk0 i
  unfold mostHas
  rw [hk, Int.toNat_natCast]
  exact h
theorem most_mono (x y : NodeM) (k : Nat) (hx : x.n = (k : Int)) (hy : y.n = (k : Int)) (hk0 : 0 < k) (h : ∀ j (h1 : j < (hasL x k).length) (h2 : j < (hasL y k).length), (hasL x k)[j] ≤ (hasL y k)[j]) : mostHas x ≤ mostHas y := by
  have h1 := (most_iff x k hx hk0 (mostHas x)).2 (Int.le_refl _)
  have h2 := many_mono (hasL x k) (hasL y k) (by rw [hasL_length, hasL_length]) h (mostHas x)
  exact (most_iff y k hy hk0 (mostHas x)).1 (by omega)
/-- a majority has no more than one of them has -/
theorem most_le (x : NodeM) (k : Nat) (hx : x.n = (k : Int)) (hk0 : 0 < k) (B : Int) (h : ∀ a ∈ hasL x k, a ≤ B) : mostHas x ≤ B := by
  rcases Int.lt_or_le B (mostHas x) with h9 | h9
  · have h1 := (most_iff x k hx hk0 (mostHas x)).2 (Int.le_refl _)
    have h2 : manyF (hasL x k) (mostHas x) = 0 := by
      unfold manyF
      rw [List.countP_eq_zero]
      intro a ha
      have := h a ha
      simp only [decide_eq_true_iff]
      omega
    omega
  · exact h9
end Go.Proofs.Ytlggkeoihpcdiaa

/- The walk of package raft's takeTold. -/
namespace Go.Proofs.Ytlggkeoihpcdiaa
open Go.RowKit

def toldHeardF (x : NodeM) (f : Nat) : NodeM := { x with heard := x.heard ||| 2 ^ f }
def takeToldF (x : NodeM) (m : MsgM) (f : Nat) : NodeM :=
  if m.yes = false then takeLacksF (toldHeardF x f) f m.i
  else if (termF x.log m.i).2 = true then takeHasF (toldHeardF x f) f m.i else toldHeardF x f

set_option maxRecDepth 100000 in
set_option maxHeartbeats 1600000 in
/-- (*raft.Node).takeTold -/
theorem takeTold_any (base g : Nat) (x : NodeM) (m : MsgM) (f : Nat) (hmf : m.f = (f : Int)) (A : Option Addr) (n c : Nat) (S : Nat → Prop) (w : World) (h : NodeAt w base g x S) (hf : f < x.peers.length) (hn0 : 0 < x.n) (hn7 : x.n ≤ 7) (hid0 : 0 ≤ x.id) (hid : x.id < x.n) (hpl : (x.peers.length : Int) = x.n) (hhs : ∀ p ∈ x.peers, 0 ≤ p.has ∧ p.has ≤ 1048576) (hpn : ∀ p ∈ x.peers, 1 ≤ p.next ∧ p.next ≤ 1099511627776) (hhe : x.heard < 128) (hi : -9223372036854775808 ≤ m.i) (hl : x.log.length ≤ 1048576) (hB : base ≤ w.heap.size) (ho : x.out.length ≤ 1000000) :
    Calls Try.prog 87 #[.pointer (some ⟨g, 0, none⟩), .agg #[.int .i64 m.k, .int .i64 m.f, .int .i64 m.t, .int .i64 m.term, .int .i64 m.i, .int .i64 m.lt, .int .i64 m.c, .bool m.yes, .slice A n c]] w fun e w' => e = .returned (.tuple #[]) ∧ NMoves0 w base g S (takeToldF x m f) w' := by
  obtain ⟨L, hL, hS⟩ := h.cell
  have hM := Blk.new w 61 #[.int .i64 m.k, .int .i64 m.f, .int .i64 m.t, .int .i64 m.term, .int .i64 m.i, .int .i64 m.lt, .int .i64 m.c, .bool m.yes, .slice A n c]
  have hb0 := (Below.refl w.heap.size w).alloc (Nat.le_refl _) (.cells #[.int .i64 m.k, .int .i64 m.f, .int .i64 m.t, .int .i64 m.term, .int .i64 m.i, .int .i64 m.lt, .int .i64 m.c, .bool m.yes, .slice A n c] 61)
  have HL := Lib.hid (hL.on hb0)
  have HM := Lib.hid hM
  have HB0 := Lib.hid hb0
  have HS := Lib.hid hS
  have HSG := Lib.hid (show S g from (hS g).2 (.inl rfl))
  have HNS := Lib.hid (show ¬ S w.heap.size from fun hk => by have := h.has_lt _ hk; omega)
  have hf7 : f < 7 := by omega
  obtain ⟨hbit, hbl⟩ := hear_bits x.heard f hhe hf7
  rw [show min f 64 = f from by omega] at hbit
  have HBI := Lib.hid hbit
  have hp1 := hhs _ (List.getElem_mem hf)
  have hp2 := hpn _ (List.getElem_mem hf)
  have HBA := Lib.hid (Nat.le_trans hB hb0.size)
  have HLK := Lib.hid (fun (W : World) (hna : NodeAt W base g (toldHeardF x f) S) (hW : base ≤ W.heap.size) => takeLacks_any base g (toldHeardF x f) f m.i S W hna hf (by omega) ⟨hp1.1, by show x.peers[f].has ≤ _; omega⟩ hp2 hi hl hW ho)
  have HHS := Lib.hid (fun (W : World) (hna : NodeAt W base g (toldHeardF x f) S) (hW : base ≤ W.heap.size) (h0 : 0 ≤ m.i) (h1 : m.i ≤ (x.log.length : Int)) => takeHas_any base g (toldHeardF x f) f m.i S W hna hf (by omega) hn0 hn7 hid0 hid hpl hhs hpn h0 (by omega) hl hW ho)
  have HLL := Lib.hid hl
  have HF := Lib.hid (show takeToldF x m f = if m.yes = false then takeLacksF (toldHeardF x f) f m.i else if (termF x.log m.i).2 = true then takeHasF (toldHeardF x f) f m.i else toldHeardF x f from rfl)
  have HMF := Lib.hid hmf
  generalize takeToldF x m f = z at *
  have hf0 : (0 : Int) ≤ (f : Int) := by omega
  have hf64 : (f : Int) < 7 := by omega
  clear hL h hM hb0 hS hf hn0 hn7 hid0 hid hpl hhs hpn hhe hi hl hB ho hbit hbl hp1 hp2 hmf hf7
  go_enter Try.func87, Try.ntmps87
  go_upto_region 1 with (fail)
  generalize w.alloc (.cells #[.int .i64 m.k, .int .i64 m.f, .int .i64 m.t, .int .i64 m.term, .int .i64 m.i, .int .i64 m.lt, .int .i64 m.c, .bool m.yes, .slice A n c] 61) = w0 at *
  obtain ⟨⟨e0, e1, e2, e3⟩, ⟨e4, e5, e6⟩, ⟨e7, e8⟩⟩ := msg_cells HM.out
  rw [HMF.out] at e1
  obtain ⟨_, _, _, ⟨c12, _, _, _, _⟩⟩ := HL.out.cells
  have f12 := HL.out.blk.frozen 12
  go_cut [] (fun wx => NodeR wx base g (toldHeardF x f) L ∧ Turn0 S w0 wx)
  case first =>
    go_region
    all_goals
      go_wp2_with fail
      go_meet
      rw [HBI.out]
      have h1 := HL.out.set 12 (.int .u64 ((x.heard ||| 2 ^ f : Nat) : Int)) (x' := toldHeardF x f) rfl rfl rfl rfl
      have ht := (Turn.refl S w0).to0.set_ HSG.out 12 (.int .u64 ((x.heard ||| 2 ^ f : Nat) : Int))
      exact ⟨by first | exact h1 | exact h1.on (Below.refl _ _).drew, by first | exact ht | exact ht.on (Below.refl _ _).drew⟩
  case rest =>
    obtain ⟨hn, ht⟩ := hcut
    have hM1 : Blk wc w.heap.size 61 _ := (ht.block _ HM.out.lt HNS.out).trans HM.out
    have HM1 := Lib.hid hM1
    have HT1 := Lib.hid ((Turn0.of_below (S := S) HB0.out).trans ht (fun _ hk => .inl hk))
    have HNA1 := Lib.hid (show NodeAt wc base g (toldHeardF x f) S from ⟨L, hn, HS.out⟩)
    have HX1 := Lib.hid (Nat.le_trans HBA.out ht.size)
    have HTR := Lib.hid (fun W (hW : Below wc.heap.size wc W) => lTerm_any base L.gl L.fl x.log m.i W (hn.on hW).log (by have := HLL.out; omega))
    obtain ⟨_, ⟨_, _, c6, _⟩, _, _⟩ := hn.cells
    clear hn ht hM1 HM HB0 HL e0 e1 e2 e3 e4 e5 e6 e7 e8 c12 f12
    obtain ⟨⟨e0, e1, e2, e3⟩, ⟨e4, e5, e6⟩, ⟨e7, e8⟩⟩ := msg_cells HM1.out
    rw [HMF.out] at e1
    rcases bool_two m.yes with hye | hye
    · have HZ := Lib.hid (HF.out.trans (if_pos hye))
      have HL2 := Lib.hid (HLK.out wc HNA1.out HX1.out)
      rw [hye] at e7
      clear hye
      go_wp2_with fail
      refine HL2.out.mono ?_
      rintro e w3 ⟨rfl, hm⟩
      have HM4 := Lib.hid (NMoves0.trans HT1.out (fun _ hk => .inl hk) hm)
      clear hm
      go_wp2_with fail
      go_end0
      rw [HZ.out]
      exact ⟨rfl, HM4.out⟩
    · have HZ1 := Lib.hid (HF.out.trans (if_neg (by rw [hye]; intro h9; cases h9)))
      rw [hye] at e7
      clear hye
      go_upto_region 4 with (fail)
      go_cut [5] (fun v wx => v = .bool (termF x.log m.i).2 ∧ Below wc.heap.size wc wx)
      case first =>
        go_big_quiet (first | (go_at_call 92; refine Calls.quiet_of_same (HTR.out _ (below_drewN (Below.refl _ _) _))))
        go_wp2_with fail
        go_meet
        exact ⟨rfl, below_drewN (Below.refl _ _) nq⟩
      case rest =>
        obtain ⟨rfl, hbc⟩ := hcut
        have hm3 := HM1.out.below hbc HM1.out.lt
        obtain ⟨⟨e0, e1, e2, e3⟩, ⟨e4, e5, e6⟩, ⟨e7, e8⟩⟩ := msg_cells hm3
        rw [HMF.out] at e1
        have HT3 := Lib.hid (HT1.out.on hbc)
        have HNA3 := Lib.hid (HNA1.out.on hbc)
        have HX3 := Lib.hid (Nat.le_trans HX1.out hbc.size)
        clear hbc hm3 HT1 HNA1 HX1 HTR c6
        rcases bool_two (termF x.log m.i).2 with hfo | hfo
        · have HZ := Lib.hid (HZ1.out.trans (if_neg (by rw [hfo]; intro h9; cases h9)))
          rw [hfo]
          clear hfo
          go_wp2_with fail
          go_end0
          rw [HZ.out]
          exact ⟨rfl, S, HNA3.out, HT3.out, fun _ hk => .inl hk⟩
        · have HZ := Lib.hid (HZ1.out.trans (if_pos hfo))
          have hir := termF_true hfo
          have HH2 := Lib.hid (HHS.out wc HNA3.out HX3.out hir.1 hir.2)
          rw [hfo]
          clear hfo hir
          go_wp2_with fail
          refine HH2.out.mono ?_
          rintro e w3 ⟨rfl, hm⟩
          have HM4 := Lib.hid (NMoves0.trans HT3.out (fun _ hk => .inl hk) hm)
          clear hm
          go_wp2_with fail
          go_end0
          rw [HZ.out]
          exact ⟨rfl, HM4.out⟩
end Go.Proofs.Ytlggkeoihpcdiaa

/- The walks of package raft's takeOfTerm, of an answer to a question for a vote, and of an answer to an Append. -/
namespace Go.Proofs.Ytlggkeoihpcdiaa
open Go.RowKit

theorem followF_more (x : NodeM) (t l : Int) : (followF x t l).yes = x.yes ∧ (followF x t l).heard = x.heard ∧ (followF x t l).role = 0 ∧ (followF x t l).el = x.el ∧ (followF x t l).be = x.be ∧ (followF x t l).commit = x.commit := by
  unfold followF
  split <;> exact ⟨rfl, rfl, rfl, rfl, rfl, rfl⟩
theorem firstF_more (x : NodeM) (t : Int) : (firstF x t).yes = x.yes ∧ (firstF x t).heard = x.heard := by
  unfold firstF
  split
  · obtain ⟨a, b, _⟩ := followF_more x t (-1)
    exact ⟨a, b⟩
  · exact ⟨rfl, rfl⟩
def ofTerm4F (x : NodeM) (m : MsgM) (f : Nat) : NodeM := if m.term < (firstF x m.term).term then firstF x m.term else if m.yes = true ∧ (firstF x m.term).role = 2 then hear2F (firstF x m.term) f else firstF x m.term
def ofTerm6F (x : NodeM) (m : MsgM) (f : Nat) : NodeM := if m.term < (firstF x m.term).term then firstF x m.term else if (firstF x m.term).role = 3 then takeToldF (firstF x m.term) m f else firstF x m.term

set_option maxRecDepth 100000 in
set_option maxHeartbeats 1600000 in
/-- (*raft.Node).takeOfTerm, of an answer to a question for a vote -/
theorem ofTerm4_any (base g : Nat) (x : NodeM) (m : MsgM) (hk3 : m.k = 4) (f : Nat) (hmf : m.f = (f : Int)) (A : Option Addr) (n c : Nat) (S : Nat → Prop) (w : World) (h : NodeAt w base g x S) (hf : (f : Int) < x.n) (hy : x.yes < 128) (hn0 : 0 < x.n) (hn7 : x.n ≤ 7) (hid0 : 0 ≤ x.id) (hid : x.id < x.n) (hl : x.log.length ≤ 1048000) (hB : base ≤ w.heap.size) (ho : x.out.length ≤ 1000000) :
    Calls Try.prog 59 #[.pointer (some ⟨g, 0, none⟩), .agg #[.int .i64 m.k, .int .i64 m.f, .int .i64 m.t, .int .i64 m.term, .int .i64 m.i, .int .i64 m.lt, .int .i64 m.c, .bool m.yes, .slice A n c]] w fun e w' => e = .returned (.tuple #[]) ∧ NMoves w base g S (ofTerm4F x m f) w' := by
  obtain ⟨L, hL, hS⟩ := h.cell
  have hM := Blk.new w 61 #[.int .i64 m.k, .int .i64 m.f, .int .i64 m.t, .int .i64 m.term, .int .i64 m.i, .int .i64 m.lt, .int .i64 m.c, .bool m.yes, .slice A n c]
  have hb0 := (Below.refl w.heap.size w).alloc (Nat.le_refl _) (.cells #[.int .i64 m.k, .int .i64 m.f, .int .i64 m.t, .int .i64 m.term, .int .i64 m.i, .int .i64 m.lt, .int .i64 m.c, .bool m.yes, .slice A n c] 61)
  have HL := Lib.hid (hL.on hb0)
  have HA := Lib.hid (h.on hb0)
  have HM := Lib.hid hM
  have HB0 := Lib.hid hb0
  have HNS := Lib.hid (show ∀ k, S k → k < w.heap.size from fun k hk => h.has_lt _ hk)
  have HX := Lib.hid (And.intro hl (And.intro ho (Nat.le_trans hB hb0.size)))
  have HV := Lib.hid (And.intro hf (And.intro hy (And.intro hn0 (And.intro hn7 (And.intro hid0 hid)))))
  clear hf hy hn0 hn7 hid0 hid
  have HK := Lib.hid hk3
  have HF := Lib.hid (show ofTerm4F x m f = if m.term < (firstF x m.term).term then firstF x m.term else if m.yes = true ∧ (firstF x m.term).role = 2 then hear2F (firstF x m.term) f else firstF x m.term from rfl)
  have HFI := Lib.hid (show firstF x m.term = if x.term < m.term then followF x m.term (-1) else x from rfl)
  have HSA := Lib.hid (firstF_same x m.term)
  have HSM := Lib.hid (firstF_more x m.term)
  have HMF := Lib.hid hmf
  generalize firstF x m.term = y at *
  generalize ofTerm4F x m f = z at *
  clear hL h hM hb0 hS hl ho hB hk3 hmf
  go_enter Try.func59, Try.ntmps59
  go_upto_region 1 with (fail)
  generalize w.alloc (.cells #[.int .i64 m.k, .int .i64 m.f, .int .i64 m.t, .int .i64 m.term, .int .i64 m.i, .int .i64 m.lt, .int .i64 m.c, .bool m.yes, .slice A n c] 61) = w0 at *
  obtain ⟨⟨e0, e1, e2, e3⟩, ⟨e4, e5, e6⟩, ⟨e7, e8⟩⟩ := msg_cells HM.out
  obtain ⟨_, ⟨c4, c5, c6, c7⟩, _, _⟩ := HL.out.cells
  go_cut [10] (fun v wx => v = .bool (decide (x.term < m.term)) ∧ Below w0.heap.size w0 wx)
  case first =>
    go_big_quiet (fail)
    go_wp2_with fail
    go_meet
    exact ⟨rfl, below_drewN (Below.refl _ _) nq⟩
  case rest =>
    obtain ⟨rfl, hbc⟩ := hcut
    have HM1 := Lib.hid (HM.out.below hbc HM.out.lt)
    have HA1 := Lib.hid (HA.out.on hbc)
    have HB1 := Lib.hid (bthen HB0.out hbc)
    have HZ0 := Lib.hid hbc.size
    clear hbc HL HM HB0 HA e0 e1 e2 e3 e4 e5 e6 e7 e8 c4 c5 c6 c7
    obtain ⟨⟨e0, e1, e2, e3⟩, ⟨e4, e5, e6⟩, ⟨e7, e8⟩⟩ := msg_cells HM1.out
    go_upto_if 10 with (fail)
    go_cut [] (fun wx => NMoves wc base g S y wx)
    case first =>
      by_cases ht : x.term < m.term
      · have htd : decide (x.term < m.term) = true := decide_eq_true ht
        have HY := Lib.hid (show y = followF x m.term (-1) by rw [HFI.out, if_pos ht])
        have HFO := Lib.hid (follow_any base g x m.term (-1) S wc HA1.out)
        rw [htd]
        clear ht
        go_wp2_with fail
        refine HFO.out.mono ?_
        rintro e w3 ⟨rfl, hm⟩
        go_wp2_with fail
        go_meet
        rw [HY.out]
        exact hm
      · have htd : decide (x.term < m.term) = false := decide_eq_false ht
        have HY := Lib.hid (show y = x by rw [HFI.out, if_neg ht])
        rw [htd]
        clear ht
        go_wp2_with fail
        go_meet
        rw [HY.out]
        exact NMoves.same HA1.out
    case rest =>
      obtain ⟨S1, hna, htu, hsu⟩ := hcut
      have hM2 := htu.blk HM1.out (fun hk => by have := HNS.out _ hk; omega)
      have HM2 := Lib.hid hM2
      have HT2 := Lib.hid (show Turn S w wc from (Turn.of_below HB1.out).trans htu (fun _ hk => .inl hk))
      have HS2 := Lib.hid (show ∀ k, S1 k → S k ∨ (w.heap.size ≤ k ∧ k < wc.heap.size) from fun k hk => (hsu k hk).imp id (fun h => ⟨Nat.le_trans HB1.out.size h.1, h.2⟩))
      have HA2 := Lib.hid hna
      have HX2 := Lib.hid (show base ≤ wc.heap.size from Nat.le_trans (Nat.le_trans HX.out.2.2 (show w0.heap.size ≤ _ from HZ0.out)) htu.size)
      clear hna htu hsu HM1 HA1 HB1 hM2 e0 e1 e2 e3 e4 e5 e6 e7 e8
      obtain ⟨⟨e0, e1, e2, e3⟩, ⟨e4, e5, e6⟩, ⟨e7, e8⟩⟩ := msg_cells HM2.out
      obtain ⟨L2, hL2, _⟩ := HA2.out.cell
      obtain ⟨_, ⟨c4, _, _, _⟩, _, _⟩ := hL2.cells
      clear hL2
      go_upto_region 3 with (fail)
      go_cut [21] (fun v wx => v = .bool (decide (m.term < y.term)) ∧ Below wc.heap.size wc wx)
      case first =>
        go_big_quiet (fail)
        go_wp2_with fail
        go_meet
        exact ⟨rfl, below_drewN (Below.refl _ _) nq⟩
      case rest =>
        obtain ⟨rfl, hbc⟩ := hcut
        have HM3 := Lib.hid (HM2.out.below hbc HM2.out.lt)
        have HA3 := Lib.hid (HA2.out.on hbc)
        have HT3 := Lib.hid (HT2.out.on hbc)
        have HS3 := Lib.hid (fun k (hk : S1 k) => (HS2.out k hk).imp id (fun h => And.intro h.1 (Nat.lt_of_lt_of_le h.2 hbc.size)))
        have HX3 := Lib.hid (Nat.le_trans HX2.out hbc.size)
        clear hbc HM2 HA2 HT2 HS2 HX2 e0 e1 e2 e3 e4 e5 e6 e7 e8 c4
        obtain ⟨⟨e0, e1, e2, e3⟩, ⟨e4, e5, e6⟩, ⟨e7, e8⟩⟩ := msg_cells HM3.out
        have hrow := HM3.out
        rw [HK.out] at e0
        by_cases ht : m.term < y.term
        · have htd : decide (m.term < y.term) = true := decide_eq_true ht
          have HZ := Lib.hid (show z = y by rw [HF.out, if_pos ht])
          rw [htd]
          clear ht
          go_wp2_with fail
          refine bodyPost_ret (results_none rfl _ _ _) rfl ?_
          rw [HZ.out]
          exact ⟨rfl, NMoves.trans HT3.out HS3.out (NMoves.same HA3.out)⟩
        · have htd : decide (m.term < y.term) = false := decide_eq_false ht
          have HZ1 := Lib.hid (show z = if m.yes = true ∧ y.role = 2 then hear2F y f else y by rw [HF.out, if_neg ht])
          obtain ⟨L3, hL3, _⟩ := HA3.out.cell
          obtain ⟨_, _, ⟨c8, _, _, _⟩, _⟩ := hL3.cells
          rw [HMF.out] at e1
          rw [htd]
          clear ht hL3
          rcases bool_two m.yes with hye | hye
          · have HZ := Lib.hid (show z = y by rw [HZ1.out, if_neg (by rw [hye]; rintro ⟨h9, _⟩; cases h9)])
            rw [hye] at e7
            clear hye hrow e8 e6 e5 e4 e3 e2
            go_wp2_with fail
            go_end0
            rw [HZ.out]
            exact ⟨rfl, NMoves.trans HT3.out HS3.out (NMoves.same HA3.out)⟩
          · rw [hye] at e7
            by_cases hr : y.role = 2
            · have HZ := Lib.hid (show z = hear2F y f by rw [HZ1.out, if_pos ⟨hye, hr⟩])
              have HHE := Lib.hid (hear2_any base g y f S1 wc HA3.out hr (by rw [HSA.out.2.1]; exact HV.out.1) (by rw [HSM.out.1]; exact HV.out.2.1) (by rw [HSA.out.2.1]; exact HV.out.2.2.1) (by rw [HSA.out.2.1]; exact HV.out.2.2.2.1) (by rw [HSA.out.1]; exact HV.out.2.2.2.2.1) (by rw [HSA.out.1, HSA.out.2.1]; exact HV.out.2.2.2.2.2) (by rw [HSA.out.2.2.1]; exact HX.out.1) HX3.out (by rw [HSA.out.2.2.2.1]; exact HX.out.2.1))
              rw [hr] at c8
              clear hye hr hrow e8 e6 e5 e4 e3 e2
              go_wp2_with fail
              refine HHE.out.mono ?_
              rintro e w3 ⟨rfl, hm⟩
              have HM4 := Lib.hid (NMoves.trans HT3.out HS3.out hm)
              clear hm
              go_wp2_with fail
              go_end0
              rw [HZ.out]
              exact ⟨rfl, HM4.out⟩
            · have HZ := Lib.hid (show z = y by rw [HZ1.out, if_neg (fun h => hr h.2)])
              have hr2 : (y.role == 2) = false := by rw [beq_eq_false_iff_ne]; exact hr
              clear hye hrow e8 e6 e5 e4 e3 e2
              go_wp2_with fail
              go_end0
              rw [HZ.out]
              exact ⟨rfl, NMoves.trans HT3.out HS3.out (NMoves.same HA3.out)⟩

/-- who leads behind it led ahead of it -/
theorem first_lead (x : NodeM) (t : Int) (h : (firstF x t).role = 3) : x.role = 3 := by
  unfold firstF at h
  split at h
  · unfold followF at h
    split at h <;> exact absurd h (by simp)
  · exact h

set_option maxRecDepth 100000 in
set_option maxHeartbeats 1600000 in
/-- (*raft.Node).takeOfTerm, of an answer to an Append -/
theorem ofTerm6_any (base g : Nat) (x : NodeM) (m : MsgM) (hk3 : m.k = 6) (f : Nat) (hmf : m.f = (f : Int)) (A : Option Addr) (n c : Nat) (S : Nat → Prop) (w : World) (h : NodeAt w base g x S) (hhe : x.heard < 128) (hn0 : 0 < x.n) (hn7 : x.n ≤ 7) (hid0 : 0 ≤ x.id) (hid : x.id < x.n) (hP : x.role = 3 → f < x.peers.length ∧ (x.peers.length : Int) = x.n ∧ (∀ p ∈ x.peers, 0 ≤ p.has ∧ p.has ≤ 1048576) ∧ ∀ p ∈ x.peers, 1 ≤ p.next ∧ p.next ≤ 1099511627776) (hi : -9223372036854775808 ≤ m.i) (hl : x.log.length ≤ 1048576) (hB : base ≤ w.heap.size) (ho : x.out.length ≤ 1000000) :
    Calls Try.prog 59 #[.pointer (some ⟨g, 0, none⟩), .agg #[.int .i64 m.k, .int .i64 m.f, .int .i64 m.t, .int .i64 m.term, .int .i64 m.i, .int .i64 m.lt, .int .i64 m.c, .bool m.yes, .slice A n c]] w fun e w' => e = .returned (.tuple #[]) ∧ NMoves0 w base g S (ofTerm6F x m f) w' := by
  obtain ⟨L, hL, hS⟩ := h.cell
  have hM := Blk.new w 61 #[.int .i64 m.k, .int .i64 m.f, .int .i64 m.t, .int .i64 m.term, .int .i64 m.i, .int .i64 m.lt, .int .i64 m.c, .bool m.yes, .slice A n c]
  have hb0 := (Below.refl w.heap.size w).alloc (Nat.le_refl _) (.cells #[.int .i64 m.k, .int .i64 m.f, .int .i64 m.t, .int .i64 m.term, .int .i64 m.i, .int .i64 m.lt, .int .i64 m.c, .bool m.yes, .slice A n c] 61)
  have HL := Lib.hid (hL.on hb0)
  have HA := Lib.hid (h.on hb0)
  have HM := Lib.hid hM
  have HB0 := Lib.hid hb0
  have HNS := Lib.hid (show ∀ k, S k → k < w.heap.size from fun k hk => h.has_lt _ hk)
  have HX := Lib.hid (And.intro hl (And.intro ho (Nat.le_trans hB hb0.size)))
  have HV := Lib.hid (And.intro hhe (And.intro hn0 (And.intro hn7 (And.intro hid0 (And.intro hid hi)))))
  have HP := Lib.hid (fun h3 => hP (first_lead x m.term h3))
  clear hhe hn0 hn7 hid0 hid hP hi
  have HK := Lib.hid hk3
  have HF := Lib.hid (show ofTerm6F x m f = if m.term < (firstF x m.term).term then firstF x m.term else if (firstF x m.term).role = 3 then takeToldF (firstF x m.term) m f else firstF x m.term from rfl)
  have HFI := Lib.hid (show firstF x m.term = if x.term < m.term then followF x m.term (-1) else x from rfl)
  have HSA := Lib.hid (firstF_same x m.term)
  have HSM := Lib.hid (firstF_more x m.term)
  have HMF := Lib.hid hmf
  generalize firstF x m.term = y at *
  generalize ofTerm6F x m f = z at *
  clear hL h hM hb0 hS hl ho hB hk3 hmf
  go_enter Try.func59, Try.ntmps59
  go_upto_region 1 with (fail)
  generalize w.alloc (.cells #[.int .i64 m.k, .int .i64 m.f, .int .i64 m.t, .int .i64 m.term, .int .i64 m.i, .int .i64 m.lt, .int .i64 m.c, .bool m.yes, .slice A n c] 61) = w0 at *
  obtain ⟨⟨e0, e1, e2, e3⟩, ⟨e4, e5, e6⟩, ⟨e7, e8⟩⟩ := msg_cells HM.out
  obtain ⟨_, ⟨c4, c5, c6, c7⟩, _, _⟩ := HL.out.cells
  go_cut [10] (fun v wx => v = .bool (decide (x.term < m.term)) ∧ Below w0.heap.size w0 wx)
  case first =>
    go_big_quiet (fail)
    go_wp2_with fail
    go_meet
    exact ⟨rfl, below_drewN (Below.refl _ _) nq⟩
  case rest =>
    obtain ⟨rfl, hbc⟩ := hcut
    have HM1 := Lib.hid (HM.out.below hbc HM.out.lt)
    have HA1 := Lib.hid (HA.out.on hbc)
    have HB1 := Lib.hid (bthen HB0.out hbc)
    have HZ0 := Lib.hid hbc.size
    clear hbc HL HM HB0 HA e0 e1 e2 e3 e4 e5 e6 e7 e8 c4 c5 c6 c7
    obtain ⟨⟨e0, e1, e2, e3⟩, ⟨e4, e5, e6⟩, ⟨e7, e8⟩⟩ := msg_cells HM1.out
    go_upto_if 10 with (fail)
    go_cut [] (fun wx => NMoves wc base g S y wx)
    case first =>
      by_cases ht : x.term < m.term
      · have htd : decide (x.term < m.term) = true := decide_eq_true ht
        have HY := Lib.hid (show y = followF x m.term (-1) by rw [HFI.out, if_pos ht])
        have HFO := Lib.hid (follow_any base g x m.term (-1) S wc HA1.out)
        rw [htd]
        clear ht
        go_wp2_with fail
        refine HFO.out.mono ?_
        rintro e w3 ⟨rfl, hm⟩
        go_wp2_with fail
        go_meet
        rw [HY.out]
        exact hm
      · have htd : decide (x.term < m.term) = false := decide_eq_false ht
        have HY := Lib.hid (show y = x by rw [HFI.out, if_neg ht])
        rw [htd]
        clear ht
        go_wp2_with fail
        go_meet
        rw [HY.out]
        exact NMoves.same HA1.out
    case rest =>
      obtain ⟨S1, hna, htu, hsu⟩ := hcut
      have hM2 := htu.blk HM1.out (fun hk => by have := HNS.out _ hk; omega)
      have HM2 := Lib.hid hM2
      have HT2 := Lib.hid (show Turn S w wc from (Turn.of_below HB1.out).trans htu (fun _ hk => .inl hk))
      have HS2 := Lib.hid (show ∀ k, S1 k → S k ∨ (w.heap.size ≤ k ∧ k < wc.heap.size) from fun k hk => (hsu k hk).imp id (fun h => ⟨Nat.le_trans HB1.out.size h.1, h.2⟩))
      have HA2 := Lib.hid hna
      have HX2 := Lib.hid (show base ≤ wc.heap.size from Nat.le_trans (Nat.le_trans HX.out.2.2 (show w0.heap.size ≤ _ from HZ0.out)) htu.size)
      clear hna htu hsu HM1 HA1 HB1 hM2 e0 e1 e2 e3 e4 e5 e6 e7 e8
      obtain ⟨⟨e0, e1, e2, e3⟩, ⟨e4, e5, e6⟩, ⟨e7, e8⟩⟩ := msg_cells HM2.out
      obtain ⟨L2, hL2, _⟩ := HA2.out.cell
      obtain ⟨_, ⟨c4, _, _, _⟩, _, _⟩ := hL2.cells
      clear hL2
      go_upto_region 3 with (fail)
      go_cut [21] (fun v wx => v = .bool (decide (m.term < y.term)) ∧ Below wc.heap.size wc wx)
      case first =>
        go_big_quiet (fail)
        go_wp2_with fail
        go_meet
        exact ⟨rfl, below_drewN (Below.refl _ _) nq⟩
      case rest =>
        obtain ⟨rfl, hbc⟩ := hcut
        have HM3 := Lib.hid (HM2.out.below hbc HM2.out.lt)
        have HA3 := Lib.hid (HA2.out.on hbc)
        have HT3 := Lib.hid (HT2.out.on hbc)
        have HS3 := Lib.hid (fun k (hk : S1 k) => (HS2.out k hk).imp id (fun h => And.intro h.1 (Nat.lt_of_lt_of_le h.2 hbc.size)))
        have HX3 := Lib.hid (Nat.le_trans HX2.out hbc.size)
        clear hbc HM2 HA2 HT2 HS2 HX2 e0 e1 e2 e3 e4 e5 e6 e7 e8 c4
        obtain ⟨⟨e0, e1, e2, e3⟩, ⟨e4, e5, e6⟩, ⟨e7, e8⟩⟩ := msg_cells HM3.out
        have hrow := HM3.out
        rw [HK.out] at e0
        by_cases ht : m.term < y.term
        · have htd : decide (m.term < y.term) = true := decide_eq_true ht
          have HZ := Lib.hid (show z = y by rw [HF.out, if_pos ht])
          rw [htd]
          clear ht
          go_wp2_with fail
          refine bodyPost_ret (results_none rfl _ _ _) rfl ?_
          rw [HZ.out]
          exact ⟨rfl, (NMoves.trans HT3.out HS3.out (NMoves.same HA3.out)).to0⟩
        · have htd : decide (m.term < y.term) = false := decide_eq_false ht
          have HZ1 := Lib.hid (show z = if y.role = 3 then takeToldF y m f else y by rw [HF.out, if_neg ht])
          obtain ⟨L3, hL3, _⟩ := HA3.out.cell
          obtain ⟨_, _, ⟨c8, _, _, _⟩, _⟩ := hL3.cells
          rw [htd]
          clear ht hL3
          by_cases hr : y.role = 3
          · have HZ := Lib.hid (show z = takeToldF y m f by rw [HZ1.out, if_pos hr])
            have hp3 := HP.out hr
            have HTO := Lib.hid (takeTold_any base g y m f HMF.out A n c S1 wc HA3.out (by rw [HSA.out.2.2.2.2]; exact hp3.1) (by rw [HSA.out.2.1]; exact HV.out.2.1) (by rw [HSA.out.2.1]; exact HV.out.2.2.1) (by rw [HSA.out.1]; exact HV.out.2.2.2.1) (by rw [HSA.out.1, HSA.out.2.1]; exact HV.out.2.2.2.2.1) (by rw [HSA.out.2.2.2.2, HSA.out.2.1]; exact hp3.2.1) (by rw [HSA.out.2.2.2.2]; exact hp3.2.2.1) (by rw [HSA.out.2.2.2.2]; exact hp3.2.2.2) (by rw [HSM.out.2]; exact HV.out.1) HV.out.2.2.2.2.2 (by rw [HSA.out.2.2.1]; exact HX.out.1) HX3.out (by rw [HSA.out.2.2.2.1]; exact HX.out.2.1))
            clear hp3
            rw [HK.out] at HTO
            rw [hr] at c8
            clear hr
            go_wp2_with fail
            refine HTO.out.mono ?_
            rintro e w3 ⟨rfl, hm⟩
            have HM4 := Lib.hid (NMoves0.trans HT3.out.to0 HS3.out hm)
            clear hm
            go_wp2_with fail
            go_end0
            rw [HZ.out]
            exact ⟨rfl, HM4.out⟩
          · have HZ := Lib.hid (show z = y by rw [HZ1.out, if_neg hr])
            have hr2 : (y.role == 3) = false := by rw [beq_eq_false_iff_ne]; exact hr
            go_wp2_with fail
            go_end0
            rw [HZ.out]
            exact ⟨rfl, (NMoves.trans HT3.out HS3.out (NMoves.same HA3.out)).to0⟩
end Go.Proofs.Ytlggkeoihpcdiaa

/- The walks of package raft's Step, of what is told: TellPre, TellVote, Told. -/
namespace Go.Proofs.Ytlggkeoihpcdiaa
open Go.RowKit

theorem counts_true {x : NodeM} {m : MsgM} (h : countsF x m = true) : m.f ≠ x.id ∧ 0 ≤ m.f ∧ m.f ≤ x.n - 1 ∧ 0 ≤ m.term ∧ m.term ≤ 1099511627776 ∧ m.es.length ≤ 8 ∧ ∀ e ∈ m.es, 1 ≤ e.t ∧ e.t ≤ m.term ∧ e.s.size ≤ 512 := by
  unfold countsF at h
  rw [Bool.and_eq_true, Bool.and_eq_true] at h
  obtain ⟨⟨h1, h2⟩, h3⟩ := h
  unfold okHead at h1
  unfold okKind at h2
  simp only [Bool.and_eq_true, decide_eq_true_iff, Bool.not_eq_true', decide_eq_false_iff_not] at h1 h2
  refine ⟨h1.1.2, h1.2.1, h1.2.2, h2.1.2.1, h2.1.2.2, h2.2, fun e he => ?_⟩
  have h9 := List.all_eq_true.1 h3 e he
  unfold okEnt at h9
  simp only [Bool.and_eq_true, decide_eq_true_iff] at h9
  exact ⟨h9.1.1, h9.1.2, h9.2⟩
def step2F (x : NodeM) (m : MsgM) : NodeM := if countsF x m then tellPreF x m else x
def step4F (x : NodeM) (m : MsgM) : NodeM := if countsF x m then ofTerm4F x m m.f.toNat else x
def step6F (x : NodeM) (m : MsgM) : NodeM := if countsF x m then ofTerm6F x m m.f.toNat else x

set_option maxRecDepth 100000 in
set_option maxHeartbeats 1600000 in
/-- (*raft.Node).Step, of an answer to a question ahead of a vote -/
theorem step2_any (base g : Nat) (x : NodeM) (m : MsgM) (hk3 : m.k = 2) (A : Option Addr) (n c : Nat) (S : Nat → Prop) (w : World) (h : NodeAt w base g x S) (hn0 : 0 < x.n) (hn7 : x.n ≤ 7) (hs : Ents w w.heap.size A m.es) (hln : m.es.length = n) (hy : x.yes < 128) (hid0 : 0 ≤ x.id) (hid : x.id < x.n) (ht0 : 0 ≤ x.term) (ht : x.term ≤ 1099511627776) (hl : x.log.length ≤ 1048000) (hB : base ≤ w.heap.size) (ho : x.out.length ≤ 999990) :
    Calls Try.prog 30 #[.pointer (some ⟨g, 0, none⟩), .agg #[.int .i64 m.k, .int .i64 m.f, .int .i64 m.t, .int .i64 m.term, .int .i64 m.i, .int .i64 m.lt, .int .i64 m.c, .bool m.yes, .slice A n c]] w fun e w' => e = .returned (.tuple #[]) ∧ NMoves w base g S (step2F x m) w' := by
  have hM := Blk.new w 61 #[.int .i64 m.k, .int .i64 m.f, .int .i64 m.t, .int .i64 m.term, .int .i64 m.i, .int .i64 m.lt, .int .i64 m.c, .bool m.yes, .slice A n c]
  have hb0 := (Below.refl w.heap.size w).alloc (Nat.le_refl _) (.cells #[.int .i64 m.k, .int .i64 m.f, .int .i64 m.t, .int .i64 m.term, .int .i64 m.i, .int .i64 m.lt, .int .i64 m.c, .bool m.yes, .slice A n c] 61)
  have HA := Lib.hid (h.on hb0)
  have HM := Lib.hid hM
  have HB0 := Lib.hid hb0
  have HX := Lib.hid (And.intro hl (And.intro ho (Nat.le_trans hB hb0.size)))
  have HV := Lib.hid (And.intro hy (And.intro hid0 (And.intro hid (And.intro ht0 ht))))
  have HNN := Lib.hid (And.intro hn0 hn7)
  clear hy hid0 hid ht0 ht
  have HK := Lib.hid hk3
  have HF := Lib.hid (show step2F x m = if countsF x m then tellPreF x m else x from rfl)
  have HMA := Lib.hid (made_any base g x S _ (h.on hb0) hn0)
  have HCO := Lib.hid (counts_any base g x m A n c S _ (h.on hb0) hn0 hn7 (Sees.on hs hb0) hln)
  generalize step2F x m = z at *
  generalize hcc : countsF x m = cc at *
  clear h hM hb0 hl ho hB hk3 hn0 hn7 hs hln
  go_enter Try.func30, Try.ntmps30
  go_upto_region 1 with (fail)
  generalize w.alloc (.cells #[.int .i64 m.k, .int .i64 m.f, .int .i64 m.t, .int .i64 m.term, .int .i64 m.i, .int .i64 m.lt, .int .i64 m.c, .bool m.yes, .slice A n c] 61) = w0 at *
  obtain ⟨⟨e0, e1, e2, e3⟩, ⟨e4, e5, e6⟩, ⟨e7, e8⟩⟩ := msg_cells HM.out
  have hrow := HM.out
  go_wp2_with fail
  refine HMA.out.mono ?_
  rintro e w2 ⟨rfl, rfl⟩
  go_wp2_with fail
  refine HCO.out.mono ?_
  rintro e w3 ⟨rfl, hb3⟩
  have HM3 := Lib.hid (HM.out.below hb3 HM.out.lt)
  have HA3 := Lib.hid (HA.out.on hb3)
  have HB3 := Lib.hid (bthen HB0.out hb3)
  have HX3 := Lib.hid (Nat.le_trans HX.out.2.2 hb3.size)
  clear e0 e1 e2 e3 e4 e5 e6 e7 e8 hrow hb3 HM HA HB0 HMA HCO
  have HT3 := Lib.hid (Turn.of_below (S := S) HB3.out)
  cases cc
  · have HZ := Lib.hid (show z = x by rw [HF.out]; rfl)
    go_wp2_with fail
    refine bodyPost_ret (results_none rfl _ _ _) rfl ?_
    rw [HZ.out]
    exact ⟨rfl, NMoves.trans HT3.out (fun _ hk => .inl hk) (NMoves.same HA3.out)⟩
  · have HZ := Lib.hid (show z = tellPreF x m by rw [HF.out]; rfl)
    obtain ⟨⟨e0, e1, e2, e3⟩, ⟨e4, e5, e6⟩, ⟨e7, e8⟩⟩ := msg_cells HM3.out
    have hrow := HM3.out
    obtain ⟨q1, q2, q3, q4, q5, q6, q7⟩ := counts_true hcc
    have HTA := Lib.hid (takeTellPre_any base g x m A n c S w3 HA3.out q2 (by omega) HV.out.1 HNN.out.1 HNN.out.2 HV.out.2.1 HV.out.2.2.1 HX.out.1 HX3.out HX.out.2.1 HV.out.2.2.2.1 HV.out.2.2.2.2 q4 q5)
    clear q1 q2 q3 q4 q5 q6 q7
    rw [HK.out] at HTA e0
    go_wp2_with fail
    refine HTA.out.mono ?_
    rintro e w4 ⟨rfl, hm⟩
    have HM4 := Lib.hid (NMoves.trans HT3.out (fun _ hk => .inl hk) hm)
    clear hm
    go_wp2_with fail
    go_end0
    rw [HZ.out]
    exact ⟨rfl, HM4.out⟩

set_option maxRecDepth 100000 in
set_option maxHeartbeats 1600000 in
/-- (*raft.Node).Step, of an answer to a question for a vote -/
theorem step4_any (base g : Nat) (x : NodeM) (m : MsgM) (hk3 : m.k = 4) (A : Option Addr) (n c : Nat) (S : Nat → Prop) (w : World) (h : NodeAt w base g x S) (hn0 : 0 < x.n) (hn7 : x.n ≤ 7) (hs : Ents w w.heap.size A m.es) (hln : m.es.length = n) (hy : x.yes < 128) (hid0 : 0 ≤ x.id) (hid : x.id < x.n) (hl : x.log.length ≤ 1048000) (hB : base ≤ w.heap.size) (ho : x.out.length ≤ 999990) :
    Calls Try.prog 30 #[.pointer (some ⟨g, 0, none⟩), .agg #[.int .i64 m.k, .int .i64 m.f, .int .i64 m.t, .int .i64 m.term, .int .i64 m.i, .int .i64 m.lt, .int .i64 m.c, .bool m.yes, .slice A n c]] w fun e w' => e = .returned (.tuple #[]) ∧ NMoves w base g S (step4F x m) w' := by
  have hM := Blk.new w 61 #[.int .i64 m.k, .int .i64 m.f, .int .i64 m.t, .int .i64 m.term, .int .i64 m.i, .int .i64 m.lt, .int .i64 m.c, .bool m.yes, .slice A n c]
  have hb0 := (Below.refl w.heap.size w).alloc (Nat.le_refl _) (.cells #[.int .i64 m.k, .int .i64 m.f, .int .i64 m.t, .int .i64 m.term, .int .i64 m.i, .int .i64 m.lt, .int .i64 m.c, .bool m.yes, .slice A n c] 61)
  have HA := Lib.hid (h.on hb0)
  have HM := Lib.hid hM
  have HB0 := Lib.hid hb0
  have HX := Lib.hid (And.intro hl (And.intro ho (Nat.le_trans hB hb0.size)))
  have HV := Lib.hid (And.intro hy (And.intro hid0 hid))
  have HNN := Lib.hid (And.intro hn0 hn7)
  clear hy hid0 hid
  have HK := Lib.hid hk3
  have HF := Lib.hid (show step4F x m = if countsF x m then ofTerm4F x m m.f.toNat else x from rfl)
  have HMA := Lib.hid (made_any base g x S _ (h.on hb0) hn0)
  have HCO := Lib.hid (counts_any base g x m A n c S _ (h.on hb0) hn0 hn7 (Sees.on hs hb0) hln)
  generalize step4F x m = z at *
  generalize hcc : countsF x m = cc at *
  clear h hM hb0 hl ho hB hk3 hn0 hn7 hs hln
  go_enter Try.func30, Try.ntmps30
  go_upto_region 1 with (fail)
  generalize w.alloc (.cells #[.int .i64 m.k, .int .i64 m.f, .int .i64 m.t, .int .i64 m.term, .int .i64 m.i, .int .i64 m.lt, .int .i64 m.c, .bool m.yes, .slice A n c] 61) = w0 at *
  obtain ⟨⟨e0, e1, e2, e3⟩, ⟨e4, e5, e6⟩, ⟨e7, e8⟩⟩ := msg_cells HM.out
  have hrow := HM.out
  go_wp2_with fail
  refine HMA.out.mono ?_
  rintro e w2 ⟨rfl, rfl⟩
  go_wp2_with fail
  refine HCO.out.mono ?_
  rintro e w3 ⟨rfl, hb3⟩
  have HM3 := Lib.hid (HM.out.below hb3 HM.out.lt)
  have HA3 := Lib.hid (HA.out.on hb3)
  have HB3 := Lib.hid (bthen HB0.out hb3)
  have HX3 := Lib.hid (Nat.le_trans HX.out.2.2 hb3.size)
  clear e0 e1 e2 e3 e4 e5 e6 e7 e8 hrow hb3 HM HA HB0 HMA HCO
  have HT3 := Lib.hid (Turn.of_below (S := S) HB3.out)
  cases cc
  · have HZ := Lib.hid (show z = x by rw [HF.out]; rfl)
    go_wp2_with fail
    refine bodyPost_ret (results_none rfl _ _ _) rfl ?_
    rw [HZ.out]
    exact ⟨rfl, NMoves.trans HT3.out (fun _ hk => .inl hk) (NMoves.same HA3.out)⟩
  · have HZ := Lib.hid (show z = ofTerm4F x m m.f.toNat by rw [HF.out]; rfl)
    obtain ⟨⟨e0, e1, e2, e3⟩, ⟨e4, e5, e6⟩, ⟨e7, e8⟩⟩ := msg_cells HM3.out
    have hrow := HM3.out
    obtain ⟨q1, q2, q3, q4, q5, q6, q7⟩ := counts_true hcc
    have HTA := Lib.hid (ofTerm4_any base g x m HK.out m.f.toNat (by omega) A n c S w3 HA3.out (by omega) HV.out.1 HNN.out.1 HNN.out.2 HV.out.2.1 HV.out.2.2 HX.out.1 HX3.out (by have := HX.out; omega))
    clear q1 q2 q3 q4 q5 q6 q7
    rw [HK.out] at HTA e0
    go_wp2_with fail
    refine HTA.out.mono ?_
    rintro e w4 ⟨rfl, hm⟩
    have HM4 := Lib.hid (NMoves.trans HT3.out (fun _ hk => .inl hk) hm)
    clear hm
    go_wp2_with fail
    go_end0
    rw [HZ.out]
    exact ⟨rfl, HM4.out⟩

set_option maxRecDepth 100000 in
set_option maxHeartbeats 1600000 in
/-- (*raft.Node).Step, of an answer to an Append -/
theorem step6_any (base g : Nat) (x : NodeM) (m : MsgM) (hk3 : m.k = 6) (A : Option Addr) (n c : Nat) (S : Nat → Prop) (w : World) (h : NodeAt w base g x S) (hn0 : 0 < x.n) (hn7 : x.n ≤ 7) (hs : Ents w w.heap.size A m.es) (hln : m.es.length = n) (hhe : x.heard < 128) (hid0 : 0 ≤ x.id) (hid : x.id < x.n) (hP : x.role = 3 → (x.peers.length : Int) = x.n ∧ (∀ p ∈ x.peers, 0 ≤ p.has ∧ p.has ≤ 1048576) ∧ ∀ p ∈ x.peers, 1 ≤ p.next ∧ p.next ≤ 1099511627776) (hi : -9223372036854775808 ≤ m.i) (hl : x.log.length ≤ 1048000) (hB : base ≤ w.heap.size) (ho : x.out.length ≤ 999990) :
    Calls Try.prog 30 #[.pointer (some ⟨g, 0, none⟩), .agg #[.int .i64 m.k, .int .i64 m.f, .int .i64 m.t, .int .i64 m.term, .int .i64 m.i, .int .i64 m.lt, .int .i64 m.c, .bool m.yes, .slice A n c]] w fun e w' => e = .returned (.tuple #[]) ∧ NMoves0 w base g S (step6F x m) w' := by
  have hM := Blk.new w 61 #[.int .i64 m.k, .int .i64 m.f, .int .i64 m.t, .int .i64 m.term, .int .i64 m.i, .int .i64 m.lt, .int .i64 m.c, .bool m.yes, .slice A n c]
  have hb0 := (Below.refl w.heap.size w).alloc (Nat.le_refl _) (.cells #[.int .i64 m.k, .int .i64 m.f, .int .i64 m.t, .int .i64 m.term, .int .i64 m.i, .int .i64 m.lt, .int .i64 m.c, .bool m.yes, .slice A n c] 61)
  have HA := Lib.hid (h.on hb0)
  have HM := Lib.hid hM
  have HB0 := Lib.hid hb0
  have HX := Lib.hid (And.intro hl (And.intro ho (Nat.le_trans hB hb0.size)))
  have HV := Lib.hid (And.intro hhe (And.intro hid0 (And.intro hid (And.intro hP hi))))
  have HNN := Lib.hid (And.intro hn0 hn7)
  clear hhe hid0 hid hP hi
  have HK := Lib.hid hk3
  have HF := Lib.hid (show step6F x m = if countsF x m then ofTerm6F x m m.f.toNat else x from rfl)
  have HMA := Lib.hid (made_any base g x S _ (h.on hb0) hn0)
  have HCO := Lib.hid (counts_any base g x m A n c S _ (h.on hb0) hn0 hn7 (Sees.on hs hb0) hln)
  generalize step6F x m = z at *
  generalize hcc : countsF x m = cc at *
  clear h hM hb0 hl ho hB hk3 hn0 hn7 hs hln
  go_enter Try.func30, Try.ntmps30
  go_upto_region 1 with (fail)
  generalize w.alloc (.cells #[.int .i64 m.k, .int .i64 m.f, .int .i64 m.t, .int .i64 m.term, .int .i64 m.i, .int .i64 m.lt, .int .i64 m.c, .bool m.yes, .slice A n c] 61) = w0 at *
  obtain ⟨⟨e0, e1, e2, e3⟩, ⟨e4, e5, e6⟩, ⟨e7, e8⟩⟩ := msg_cells HM.out
  have hrow := HM.out
  go_wp2_with fail
  refine HMA.out.mono ?_
  rintro e w2 ⟨rfl, rfl⟩
  go_wp2_with fail
  refine HCO.out.mono ?_
  rintro e w3 ⟨rfl, hb3⟩
  have HM3 := Lib.hid (HM.out.below hb3 HM.out.lt)
  have HA3 := Lib.hid (HA.out.on hb3)
  have HB3 := Lib.hid (bthen HB0.out hb3)
  have HX3 := Lib.hid (Nat.le_trans HX.out.2.2 hb3.size)
  clear e0 e1 e2 e3 e4 e5 e6 e7 e8 hrow hb3 HM HA HB0 HMA HCO
  have HT3 := Lib.hid (Turn.of_below (S := S) HB3.out)
  cases cc
  · have HZ := Lib.hid (show z = x by rw [HF.out]; rfl)
    go_wp2_with fail
    refine bodyPost_ret (results_none rfl _ _ _) rfl ?_
    rw [HZ.out]
    exact ⟨rfl, (NMoves.trans HT3.out (fun _ hk => .inl hk) (NMoves.same HA3.out)).to0⟩
  · have HZ := Lib.hid (show z = ofTerm6F x m m.f.toNat by rw [HF.out]; rfl)
    obtain ⟨⟨e0, e1, e2, e3⟩, ⟨e4, e5, e6⟩, ⟨e7, e8⟩⟩ := msg_cells HM3.out
    have hrow := HM3.out
    obtain ⟨q1, q2, q3, q4, q5, q6, q7⟩ := counts_true hcc
    have HTA := Lib.hid (ofTerm6_any base g x m HK.out m.f.toNat (by omega) A n c S w3 HA3.out HV.out.1 HNN.out.1 HNN.out.2 HV.out.2.1 HV.out.2.2.1 (fun h3 => by obtain ⟨p1, p2⟩ := HV.out.2.2.2.1 h3; exact ⟨by omega, p1, p2⟩) HV.out.2.2.2.2 (by have := HX.out; omega) HX3.out (by have := HX.out; omega))
    clear q1 q2 q3 q4 q5 q6 q7
    rw [HK.out] at HTA e0
    go_wp2_with fail
    refine HTA.out.mono ?_
    rintro e w4 ⟨rfl, hm⟩
    have HM4 := Lib.hid (NMoves0.trans HT3.out.to0 (fun _ hk => .inl hk) hm)
    clear hm
    go_wp2_with fail
    go_end0
    rw [HZ.out]
    exact ⟨rfl, HM4.out⟩
end Go.Proofs.Ytlggkeoihpcdiaa
