/- Plain facts of a node that is asked for its vote, again and again. -/
import Derived.Test.YtpgohajnohebnaaJ10
import Derived.Test.YtpgohajnohebnaaJ12
namespace Go.Proofs.Ytpgohajnohebnaa
open Go.RowKit

/-- a follower that was asked for its vote alone -/
structure VoteInv (y : NodeM) (l : List Ent) (T V : Int) : Prop where
  id : y.id = 0
  n : y.n = 5
  term : y.term = T
  vote : y.vote = V
  log : y.log = l
  role : y.role = 0
  out : y.out = []
  t0 : 0 ≤ T
  t1 : T ≤ 1099511627776
  v0 : -1 ≤ V
/-- what is asked: the statement lays the kind, whom it is to, and no entries -/
def askM (f t i lt c : Int) (yes : Bool) : MsgM := ⟨3, f, 0, t, i, lt, c, yes, []⟩
theorem ask_counts (y : NodeM) (l : List Ent) (T V : Int) (h : VoteInv y l T V) (f t i lt c : Int) (yes : Bool) : countsF y (askM f t i lt c yes) = decide (1 ≤ f ∧ f ≤ 4 ∧ 0 ≤ t ∧ t ≤ 1099511627776) := by
  unfold countsF okHead okKind askM
  rw [h.id, h.n]
  simp only [List.all_nil, Bool.and_true, List.length_nil]
  by_cases h1 : 1 ≤ f ∧ f ≤ 4 ∧ 0 ≤ t ∧ t ≤ 1099511627776
  · rw [decide_eq_true h1]
    simp
    omega
  · rw [decide_eq_false h1, ← Bool.not_eq_true]
    simp
    omega
theorem votes_none (y : NodeM) (l : List Ent) (T V : Int) (h : VoteInv y l T V) (f t i lt c : Int) (yes : Bool) (hb : ¬ (1 ≤ f ∧ f ≤ 4 ∧ T ≤ t ∧ t ≤ 1099511627776)) : step3F y (askM f t i lt c yes) = y := by
  unfold step3F
  rw [ask_counts y l T V h]
  by_cases h1 : 1 ≤ f ∧ f ≤ 4 ∧ 0 ≤ t ∧ t ≤ 1099511627776
  · rw [if_pos (decide_eq_true h1)]
    have htt : t < T := by omega
    have hfi : firstF y t = y := by
      unfold firstF
      rw [if_neg (by rw [h.term]; omega)]
    unfold ofTerm3F
    rw [show (askM f t i lt c yes).term = t from rfl, hfi, if_pos (by rw [h.term]; exact htt)]
  · rw [if_neg (by rw [decide_eq_false h1]; simp)]
/-- whom it votes for behind a greater term -/
def voteN (T V t : Int) : Int := if T < t then -1 else V
def yesN (l : List Ent) (T V f t i lt : Int) : Bool := (decide (voteN T V t = -1) || decide (voteN T V t = f)) && youngF l i lt
theorem votes_some (y : NodeM) (l : List Ent) (T V : Int) (h : VoteInv y l T V) (f t i lt c : Int) (yes : Bool) (hg : 1 ≤ f ∧ f ≤ 4 ∧ T ≤ t ∧ t ≤ 1099511627776) :
    (step3F y (askM f t i lt c yes)).out = [⟨4, 0, f, t, 0, 0, 0, yesN l T V f t i lt, []⟩] ∧ VoteInv { step3F y (askM f t i lt c yes) with out := [] } l t (if yesN l T V f t i lt then f else voteN T V t) := by
  have h0 := h.t0
  have hv0 := h.v0
  have hs : step3F y (askM f t i lt c yes) = askVoteF (firstF y t) (askM f t i lt c yes) := by
    unfold step3F
    rw [ask_counts y l T V h, if_pos (decide_eq_true ⟨hg.1, hg.2.1, by omega, hg.2.2.2⟩)]
    unfold ofTerm3F
    rw [show (askM f t i lt c yes).term = t from rfl, if_neg]
    unfold firstF followF
    rw [h.term]
    split
    · simp
    · rw [h.term]
      omega
  have hf : (firstF y t).id = 0 ∧ (firstF y t).n = 5 ∧ (firstF y t).term = t ∧ (firstF y t).vote = voteN T V t ∧ (firstF y t).log = l ∧ (firstF y t).role = 0 ∧ (firstF y t).out = [] := by
    unfold firstF followF voteN
    rw [h.term]
    by_cases ht : T < t
    · rw [if_pos ht, if_pos ht, if_pos ht]
      exact ⟨h.id, h.n, rfl, rfl, h.log, rfl, h.out⟩
    · rw [if_neg ht, if_neg ht]
      exact ⟨h.id, h.n, by rw [h.term]; omega, h.vote, h.log, h.role, h.out⟩
  rw [hs]
  generalize firstF y t = z at *
  obtain ⟨z1, z2, z3, z4, z5, z6, z7⟩ := hf
  have hok : voteOk z (askM f t i lt c yes) = yesN l T V f t i lt := by
    unfold voteOk yesN
    rw [z4, z5, z6]
    simp [askM]
    rfl
  have hvn : -1 ≤ voteN T V t := by unfold voteN; split <;> omega
  unfold askVoteF tellF votedF
  rw [hok]
  cases yesN l T V f t i lt
  · simp only [Bool.false_eq_true, if_false]
    refine ⟨?_, ⟨z1, z2, z3, z4, z5, z6, rfl, by omega, hg.2.2.2, hvn⟩⟩
    rw [z7, z1, z3]
    rfl
  · simp only [if_true]
    refine ⟨?_, ⟨z1, z2, z3, rfl, z5, z6, rfl, by omega, hg.2.2.2, by omega⟩⟩
    rw [z7, z1, z3]
    rfl
theorem vote_new (T : Int) (l : List Ent) (h0 : 0 ≤ T) (h1 : T ≤ 1099511627776) : VoteInv (newF 0 5 9 1 ⟨T, -1, l⟩) l T (-1) := ⟨rfl, rfl, rfl, rfl, rfl, rfl, rfl, h0, h1, by omega⟩

/-- the greatest term of the first k, or 0 -/
def maxT (l : List Ent) (k : Nat) : Int := (l.take k).foldl (fun t e => max t e.t) 0
theorem maxT_zero (l : List Ent) : maxT l 0 = 0 := rfl
theorem maxT_succ (l : List Ent) (k : Nat) (hk : k < l.length) : maxT l (k + 1) = max (maxT l k) l[k].t := by
  unfold maxT
  rw [List.take_add_one, List.getElem?_eq_getElem hk, List.foldl_append]
  rfl
theorem rightS_true (s : StP) (h : rightS s = true) : 0 ≤ s.t ∧ s.t ≤ 1099511627776 := by
  by_cases h1 : 0 ≤ s.t ∧ s.t ≤ 1099511627776
  · exact h1
  · rw [rightS_t s h1] at h
    cases h

theorem lastT_end (es : List Ent) (j : Nat) (h : es.length = j + 1) : lastT es = (es[j]'(by omega)).t := by
  unfold lastT
  have h1 := termF_at (es := es) (j := j) (by omega)
  have e : ((es.length : Nat) : Int) = (j : Int) + 1 := by omega
  rw [e, h1]

/-- one message is handed out -/
theorem out_one {w w' : World} {base g : Nat} {x : NodeM} {S : Nat → Prop} {e : Ending} {m : MsgM} (h : OutRet w base g x S e w') (hm : x.out = [m]) : ∃ b off c S', e = .returned (.slice (some ⟨b, off, none⟩) 1 c) ∧ b < w'.heap.size ∧ ¬ S' b ∧ (w'.cell? ⟨b, off, none⟩ = some (.int .i64 m.k) ∧ w'.cell? ⟨b, off + 2, none⟩ = some (.int .i64 m.t) ∧ w'.cell? ⟨b, off + 3, none⟩ = some (.int .i64 m.term) ∧ w'.cell? ⟨b, off + 7, none⟩ = some (.bool m.yes)) ∧ NodeAt w' base g { x with out := [] } S' ∧ Turn S w w' := by
  obtain ⟨A, c, ml, S', h1, h2, h3, _, h5, h6, _, h8⟩ := h
  rw [hm] at h2
  match ml, h1, h2, h3 with
  | [y], h1, h2, h3 =>
    obtain ⟨b, off, hA, hb, hc⟩ := h3.sees.2 (by simp)
    subst hA
    have hy : y.m = m := by
      have h9 : [y.m] = [m] := h2
      injection h9
    have hcap : 0 < c := Nat.lt_of_lt_of_le (show 0 < [y].length by simp) h3.2.1
    refine ⟨b, off, c, S', h1, hb, h8 b (by unfold foot; rw [if_pos hcap]; rfl), ⟨?_, ?_, ?_, ?_⟩, h5, h6⟩
    · have h7 := hc 0 (.int .i64 y.m.k) (by simp [mcs, MsgL.cells])
      rw [← hy]
      exact h7
    · have h7 := hc 2 (.int .i64 y.m.t) (by simp [mcs, MsgL.cells])
      rw [← hy]
      exact h7
    · have h7 := hc 3 (.int .i64 y.m.term) (by simp [mcs, MsgL.cells])
      rw [← hy]
      exact h7
    · have h7 := hc 7 (.bool y.m.yes) (by simp [mcs, MsgL.cells])
      rw [← hy]
      exact h7
  | [], h1, h2, h3 => simp at h2
  | _ :: _ :: _, h1, h2, h3 => simp at h2
/-- nothing is handed out -/
theorem out_none {w w' : World} {base g : Nat} {x : NodeM} {S : Nat → Prop} {e : Ending} (h : OutRet w base g x S e w') (hm : x.out = []) : ∃ A c S', e = .returned (.slice A 0 c) ∧ NodeAt w' base g { x with out := [] } S' ∧ Turn S w w' := by
  obtain ⟨A, c, ml, S', h1, h2, h3, _, h5, h6, _, h8⟩ := h
  rw [hm] at h2
  have hm0 : ml = [] := List.map_eq_nil_iff.1 h2
  subst hm0
  exact ⟨A, c, S', h1, h5, h6⟩
end Go.Proofs.Ytpgohajnohebnaa
