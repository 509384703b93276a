/- Plain facts of a leader: what it commits, when it is told, and when something is proposed. -/
import Derived.Test.YtlggkeoihpcdiaaJ10
import Derived.Test.YtlggkeoihpcdiaaJ11
import Derived.Test.YtlggkeoihpcdiaaJ19
namespace Go.Proofs.Ytlggkeoihpcdiaa
open Go.RowKit

theorem lead_commit (y : NodeM) (L : Nat) (T1 v0 : Int) (hc : y.commit = if (L : Int) + 1 ≤ v0 then v0 else 0) (hv : v0 ≤ mostHas y) (hle : mostHas y ≤ y.log.length) (ht : y.term = T1) (low : ∀ j (h : j < y.log.length), j < L → y.log[j].t < T1) (high : ∀ j (h : j < y.log.length), L ≤ j → y.log[j].t = T1) :
    (commitF y).1 = { y with commit := if (L : Int) + 1 ≤ mostHas y then mostHas y else 0 } := by
  have hterm : ∀ v : Int, 1 ≤ v → v ≤ y.log.length → ∃ j, ∃ h : j < y.log.length, v = (j : Int) + 1 ∧ (termF y.log v).1 = y.log[j].t := by
    intro v h1 h2
    obtain ⟨j, hj⟩ : ∃ j : Nat, v = (j : Int) + 1 := ⟨(v - 1).toNat, by omega⟩
    have hjl : j < y.log.length := by omega
    exact ⟨j, hjl, hj, by rw [hj, termF_at hjl]⟩
  unfold commitF
  by_cases h1 : (L : Int) + 1 ≤ mostHas y
  · rw [if_pos h1]
    obtain ⟨j, hj, hje, htm⟩ := hterm _ (by omega) hle
    have htt : (termF y.log (mostHas y)).1 = y.term := by rw [htm, ht]; exact high j hj (by omega)
    by_cases h2 : mostHas y ≤ y.commit
    · rw [if_pos (.inl h2)]
      have h3 : y.commit = mostHas y := by
        rw [hc] at h2 ⊢
        split at h2
        · rw [if_pos (by assumption)]
          omega
        · omega
      show y = _
      rw [← h3]
    · rw [if_neg (fun h => h.elim h2 (fun h3 => h3 htt))]
  · rw [if_neg h1]
    have h3 : y.commit = 0 := by rw [hc, if_neg (by omega)]
    have h4 : mostHas y ≤ y.commit ∨ (termF y.log (mostHas y)).1 ≠ y.term := by
      by_cases h5 : mostHas y ≤ 0
      · exact .inl (by rw [h3]; exact h5)
      · obtain ⟨j, hj, hje, htm⟩ := hterm _ (by omega) hle
        exact .inr (by rw [htm, ht]; have := low j hj (by omega); omega)
    rw [if_pos h4]
    show y = _
    rw [← h3]

/-- a leader; hv: what it was told of each -/
structure LeadInv (y : NodeM) (k L : Nat) (T1 : Int) (hv : List Int) (B : Nat) : Prop where
  id : y.id = 0
  n : y.n = (k : Int)
  role : y.role = 3
  term : y.term = T1
  low : ∀ j (h : j < y.log.length), j < L → y.log[j].t < T1
  high : ∀ j (h : j < y.log.length), L ≤ j → y.log[j].t = T1
  len : L < y.log.length
  pl : y.peers.length = k
  hl : hv.length = k
  has : ∀ i (h1 : i < y.peers.length) (h2 : i < hv.length), 0 < i → y.peers[i].has = hv[i]
  pb : ∀ p ∈ y.peers, (0 ≤ p.has ∧ p.has ≤ y.log.length) ∧ 1 ≤ p.next ∧ p.next ≤ y.log.length + 1
  commit : y.commit = if (L : Int) + 1 ≤ mostHas y then mostHas y else 0
  heard : y.heard < 128
  out : y.out.length ≤ B
theorem most_congr (x y : NodeM) (k : Nat) (hx : x.n = (k : Int)) (hy : y.n = (k : Int)) (h : hasL x k = hasL y k) : mostHas x = mostHas y := by
  unfold mostHas
  rw [hx, hy, Int.toNat_natCast]
  unfold hasL at h
  rw [h]
theorem hasL_get (x : NodeM) (k : Nat) (hid : x.id = 0) (hpl : x.peers.length = k) (j : Nat) (h1 : j < (hasL x k).length) (h2 : j < x.peers.length) : (hasL x k)[j] = if j = 0 then (x.log.length : Int) else x.peers[j].has := by
  unfold hasL at h1 ⊢
  rw [List.getElem_set]
  simp only [hid, Int.toNat_zero]
  by_cases h0 : j = 0
  · subst h0
    simp
  · rw [if_neg (by omega), if_neg h0]
    simp [hasK, show j < k by omega, List.getD_eq_getElem?_getD, List.getElem?_eq_getElem h2]
theorem hasL_le (y : NodeM) (k : Nat) (hid : y.id = 0) (hpl : y.peers.length = k) (hb : ∀ p ∈ y.peers, p.has ≤ y.log.length) : ∀ a ∈ hasL y k, a ≤ y.log.length := by
  intro a ha
  obtain ⟨j, hj, rfl⟩ := List.mem_iff_getElem.1 ha
  have h2 : j < y.peers.length := by rw [hasL_length] at hj; omega
  rw [hasL_get y k hid hpl j hj h2]
  split
  · exact Int.le_refl _
  · exact hb _ (List.getElem_mem h2)
/-- messages more, or heard of more: still the same leader -/
theorem LeadInv.out_ {y : NodeM} {k L B B' : Nat} {T1 : Int} {hv : List Int} (h : LeadInv y k L T1 hv B) (o : List MsgM) (he : Nat) (hhe : he < 128) (ho : o.length ≤ B') : LeadInv { y with out := o, heard := he } k L T1 hv B' :=
  ⟨h.id, h.n, h.role, h.term, h.low, h.high, h.len, h.pl, h.hl, h.has, h.pb, h.commit, hhe, ho⟩
end Go.Proofs.Ytlggkeoihpcdiaa

/- Plain facts of a leader that is told something, and to which something is proposed. -/
namespace Go.Proofs.Ytlggkeoihpcdiaa
open Go.RowKit

theorem unsaved_fr (z : NodeM) (i : Int) : ∃ q, unsavedF z i = { z with fr := q } := by
  unfold unsavedF
  split
  · exact ⟨i, rfl⟩
  · exact ⟨z.fr, rfl⟩
theorem lastT_at (l : List Ent) (q : Nat) (h : l.length = q + 1) : lastT l = (l[q]'(by omega)).t := by
  unfold lastT
  have h1 := termF_at (es := l) (j := q) (by omega)
  have e : ((l.length : Nat) : Int) = (q : Int) + 1 := by omega
  rw [e, h1]

theorem lead_propose {y : NodeM} {k L B : Nat} {T1 : Int} {hv : List Int} (h : LeadInv y k L T1 hv B) (hk : 0 < k) (s : ByteArray) (hs : s.size ≤ 512) (hl : y.log.length < 1024) :
    ∃ y', proposeF y s = (y', y.log.length + 1, 0) ∧ LeadInv y' k L T1 hv (B + k) ∧ y'.log.length = y.log.length + 1 := by
  have hlast : lastT y.log = T1 := by
    obtain ⟨q, hq⟩ : ∃ q, y.log.length = q + 1 := ⟨y.log.length - 1, by have := h.len; omega⟩
    rw [lastT_at y.log q hq]
    exact h.high q (by omega) (by have := h.len; omega)
  obtain ⟨es, hes⟩ : ∃ es : List Ent, es = y.log ++ [(⟨T1, s⟩ : Ent)] := ⟨_, rfl⟩
  have hel : es.length = y.log.length + 1 := by rw [hes]; simp
  have hadd : addF y.log ⟨y.term, s⟩ = (es, 0) := by
    unfold addF
    rw [if_neg (by rw [hlast, h.term]; simp), if_neg (by omega), hes, h.term]
  obtain ⟨q, hq⟩ := unsaved_fr { y with log := es } (es.length : Int)
  obtain ⟨u, hu⟩ : ∃ u : NodeM, u = { y with log := es, fr := q } := ⟨_, rfl⟩
  have hul : u.log = es := by rw [hu]
  have hup : u.peers = y.peers := by rw [hu]
  have hui : u.id = 0 := by rw [hu]; exact h.id
  have hun : u.n = (k : Int) := by rw [hu]; exact h.n
  have hpl : u.peers.length = k := by rw [hup]; exact h.pl
  have hmono : mostHas y ≤ mostHas u := by
    refine most_mono y u k h.n hun hk (fun j h1 h2 => ?_)
    have hj : j < k := by rw [hasL_length] at h1; exact h1
    rw [hasL_get y k h.id h.pl j h1 (by rw [h.pl]; exact hj), hasL_get u k hui hpl j h2 (by rw [hpl]; exact hj)]
    split
    · rw [hul, hel]; omega
    · simp only [hup]; exact Int.le_refl _
  have hget : ∀ j (hj : j < u.log.length), (∃ h2 : j < y.log.length, u.log[j] = y.log[j]) ∨ (j = y.log.length ∧ u.log[j].t = T1) := by
    intro j hj
    rcases Nat.lt_or_ge j y.log.length with h9 | h9
    · exact .inl ⟨h9, by simp [hul, hes, h9]⟩
    · have hje : j = y.log.length := by rw [hul, hel] at hj; omega
      exact .inr ⟨hje, by simp [hul, hes, hje]⟩
  have hlow : ∀ j (hj : j < u.log.length), j < L → u.log[j].t < T1 := by
    intro j hj hL
    rcases hget j hj with ⟨h2, e⟩ | ⟨e, _⟩
    · rw [e]; exact h.low j h2 hL
    · have := h.len; omega
  have hhigh : ∀ j (hj : j < u.log.length), L ≤ j → u.log[j].t = T1 := by
    intro j hj hL
    rcases hget j hj with ⟨h2, e⟩ | ⟨_, e⟩
    · rw [e]; exact h.high j h2 hL
    · exact e
  have hle : mostHas u ≤ u.log.length := most_le u k hun hk _ (hasL_le u k hui hpl (fun p hp => by rw [hup] at hp; have := (h.pb p hp).1.2; rw [hul, hel]; omega))
  have hcm := lead_commit u L T1 (mostHas y) (by rw [hu]; exact h.commit) hmono hle (by rw [hu]; exact h.term) hlow hhigh
  have haddN : addN y s = ({ u with commit := if (L : Int) + 1 ≤ mostHas u then mostHas u else 0 }, 0) := by
    unfold addN
    rw [hadd, if_neg (by simp)]
    simp only
    rw [hq, ← hu, hcm]
  obtain ⟨o, ho, hol⟩ := sendAllF_told { u with commit := if (L : Int) + 1 ≤ mostHas u then mostHas u else 0 }
  refine ⟨{ u with commit := if (L : Int) + 1 ≤ mostHas u then mostHas u else 0, out := o }, ?_, ?_, by rw [← hel, ← hul]⟩
  · unfold proposeF
    rw [if_neg (fun h9 => h9 h.role), if_neg (by omega), haddN, if_neg (by simp)]
    simp only
    rw [ho, hul, hel]
  · refine ⟨hui, hun, by rw [hu]; exact h.role, by rw [hu]; exact h.term, hlow, hhigh, by show L < u.log.length; rw [hul, hel]; have := h.len; omega, hpl, h.hl, ?_, ?_, rfl, by rw [hu]; exact h.heard, ?_⟩
    · intro i h1 h2 h3
      have h4 : i < y.peers.length := by rw [h.pl]; rw [← hpl]; exact h1
      have := h.has i h4 h2 h3
      simp only [hup]
      exact this
    · intro p hp
      have hp2 : p ∈ y.peers := by rw [← hup]; exact hp
      have := h.pb p hp2
      show (0 ≤ p.has ∧ p.has ≤ (u.log.length : Int)) ∧ 1 ≤ p.next ∧ p.next ≤ (u.log.length : Int) + 1
      rw [hul, hel]
      omega
    · have h9 : u.out = y.out := by rw [hu]
      have h8 := h.out
      simp only at hol ⊢
      rw [h9, hun, Int.toNat_natCast] at hol
      omega
end Go.Proofs.Ytlggkeoihpcdiaa

/- Plain facts of a leader that is told what another one has, or lacks. -/
namespace Go.Proofs.Ytlggkeoihpcdiaa
open Go.RowKit

theorem hasL_ext (x y : NodeM) (k : Nat) (hx : x.id = 0) (hy : y.id = 0) (hpx : x.peers.length = k) (hpy : y.peers.length = k) (hl : x.log.length = y.log.length) (h : ∀ j (h1 : j < x.peers.length) (h2 : j < y.peers.length), 0 < j → x.peers[j].has = y.peers[j].has) : hasL x k = hasL y k := by
  refine List.ext_getElem (by rw [hasL_length, hasL_length]) (fun j h1 h2 => ?_)
  have hj : j < k := by rw [hasL_length] at h1; exact h1
  rw [hasL_get x k hx hpx j h1 (by omega), hasL_get y k hy hpy j h2 (by omega)]
  split
  · rw [hl]
  · exact h j (by omega) (by omega) (by omega)
theorem lead_lacks {z : NodeM} {k L B : Nat} {T1 : Int} {hv : List Int} (h : LeadInv z k L T1 hv B) (f : Nat) (hf : f < k) (i : Int) : LeadInv (takeLacksF z f i) k L T1 hv (B + 1) ∧ (takeLacksF z f i).log = z.log := by
  have hfp : f < z.peers.length := by rw [h.pl]; exact hf
  have hgd : z.peers.getD f ⟨0, 0⟩ = z.peers[f] := by rw [List.getD_eq_getElem?_getD, List.getElem?_eq_getElem hfp]; rfl
  obtain ⟨q, hq⟩ : ∃ q : PeerM, q = { z.peers[f] with next := lackNext z.peers[f] i } := ⟨_, rfl⟩
  have hla : lackedF z f i = { z with peers := z.peers.set f q } := by unfold lackedF; rw [hgd, hq]
  obtain ⟨o, ho⟩ : ∃ mm, takeLacksF z f i = { lackedF z f i with out := z.out ++ [mm] } := ⟨_, rfl⟩
  rw [ho, hla]
  have hqh : q.has = z.peers[f].has := by rw [hq]
  have hpb := h.pb _ (List.getElem_mem hfp)
  have hqn : 1 ≤ q.next ∧ q.next ≤ z.log.length + 1 := by rw [hq]; simp only; unfold lackNext; omega
  have hget : ∀ j (h1 : j < (z.peers.set f q).length) (h2 : j < z.peers.length), (z.peers.set f q)[j].has = z.peers[j].has := by
    intro j h1 h2
    rw [List.getElem_set]
    split
    · rename_i e
      subst e
      exact hqh
    · rfl
  have hmh : mostHas { z with peers := z.peers.set f q, out := z.out ++ [o] } = mostHas z := by
    refine most_congr _ _ k h.n h.n (hasL_ext _ _ k h.id h.id (by simp [h.pl]) h.pl rfl (fun j h1 h2 _ => hget j h1 h2))
  refine ⟨⟨h.id, h.n, h.role, h.term, h.low, h.high, h.len, by simp [h.pl], h.hl, ?_, ?_, by rw [hmh]; exact h.commit, h.heard, ?_⟩, rfl⟩
  · intro j h1 h2 h3
    have h4 : j < z.peers.length := by simpa using h1
    rw [show ({ z with peers := z.peers.set f q, out := z.out ++ [o] } : NodeM).peers = z.peers.set f q from rfl] at h1
    exact (hget j h1 h4).trans (h.has j h4 h2 h3)
  · intro p hp
    rcases List.mem_or_eq_of_mem_set hp with h9 | h9
    · exact h.pb p h9
    · rw [h9]
      exact ⟨by rw [hqh]; exact hpb.1, hqn⟩
  · have := h.out
    simp only [List.length_append, List.length_cons, List.length_nil]
    omega
theorem lead_has {z : NodeM} {k L B : Nat} {T1 : Int} {hv : List Int} (h : LeadInv z k L T1 hv B) (f : Nat) (hf0 : 0 < f) (hf : f < k) (i : Int) (hi0 : 0 ≤ i) (hi : i ≤ z.log.length) : LeadInv (takeHasF z f i) k L T1 (hv.set f (max (hv.getD f 0) i)) (B + k + 1) ∧ (takeHasF z f i).log = z.log := by
  have hk : 0 < k := by omega
  have hfp : f < z.peers.length := by rw [h.pl]; exact hf
  have hfh : f < hv.length := by rw [h.hl]; exact hf
  have hgd : z.peers.getD f ⟨0, 0⟩ = z.peers[f] := by rw [List.getD_eq_getElem?_getD, List.getElem?_eq_getElem hfp]; rfl
  have hvd : hv.getD f 0 = hv[f] := by rw [List.getD_eq_getElem?_getD, List.getElem?_eq_getElem hfh]; rfl
  have hph := h.has f hfp hfh hf0
  obtain ⟨M, hM⟩ : ∃ M, max hv[f] i = M := ⟨_, rfl⟩
  rw [hvd, hM]
  have hpb := h.pb _ (List.getElem_mem hfp)
  have hMb : 0 ≤ M ∧ M ≤ z.log.length ∧ z.peers[f].has ≤ M := by omega
  obtain ⟨y, hy⟩ : ∃ y : NodeM, y = { z with peers := z.peers.set f ⟨M, M + 1⟩ } := ⟨_, rfl⟩
  have hhf : hasF z f i = y := by unfold hasF; rw [hgd, hph, hM, hy]
  have hyp : y.peers = z.peers.set f ⟨M, M + 1⟩ := by rw [hy]
  have hyl : y.log = z.log := by rw [hy]
  have hyi : y.id = 0 := by rw [hy]; exact h.id
  have hyn : y.n = (k : Int) := by rw [hy]; exact h.n
  have hpl : y.peers.length = k := by rw [hyp, List.length_set]; exact h.pl
  have hget : ∀ j (h1 : j < y.peers.length) (h2 : j < z.peers.length), y.peers[j].has = if f = j then M else z.peers[j].has := by
    intro j h1 h2
    simp only [hyp, List.getElem_set]
    split <;> rfl
  have hmono : mostHas z ≤ mostHas y := by
    refine most_mono z y k h.n hyn hk (fun j h1 h2 => ?_)
    have hj : j < k := by rw [hasL_length] at h1; exact h1
    rw [hasL_get z k h.id h.pl j h1 (by rw [h.pl]; exact hj), hasL_get y k hyi hpl j h2 (by rw [hpl]; exact hj)]
    split
    · rw [hyl]; exact Int.le_refl _
    · rw [hget j (by rw [hpl]; exact hj) (by rw [h.pl]; exact hj)]
      split
      · rename_i e
        subst e
        exact hMb.2.2
      · exact Int.le_refl _
  have hpb2 : ∀ p ∈ y.peers, (0 ≤ p.has ∧ p.has ≤ y.log.length) ∧ 1 ≤ p.next ∧ p.next ≤ y.log.length + 1 := by
    intro p hp
    rw [hyp] at hp
    rw [hyl]
    rcases List.mem_or_eq_of_mem_set hp with h9 | h9
    · exact h.pb p h9
    · rw [h9]
      simp only
      omega
  have hle : mostHas y ≤ y.log.length := most_le y k hyn hk _ (hasL_le y k hyi hpl (fun p hp => (hpb2 p hp).1.2))
  have hlow : ∀ j (hj : j < y.log.length), j < L → y.log[j].t < T1 := by
    intro j hj
    simp only [hyl] at hj ⊢
    exact h.low j hj
  have hhigh : ∀ j (hj : j < y.log.length), L ≤ j → y.log[j].t = T1 := by
    intro j hj
    simp only [hyl] at hj ⊢
    exact h.high j hj
  have hcm := lead_commit y L T1 (mostHas z) (by rw [hy]; exact h.commit) hmono hle (by rw [hy]; exact h.term) hlow hhigh
  obtain ⟨C, hC⟩ : ∃ C : Int, C = if (L : Int) + 1 ≤ mostHas y then mostHas y else 0 := ⟨_, rfl⟩
  rw [← hC] at hcm
  have hall : ∃ o, hasAllF y = { y with commit := C, out := o } ∧ o.length ≤ B + k := by
    have hyo : y.out.length ≤ B := by rw [hy]; exact h.out
    unfold hasAllF
    rw [hcm]
    split
    · obtain ⟨o, ho, hol⟩ := sendAllF_told { y with commit := C }
      refine ⟨o, ho, ?_⟩
      simp only at hol
      rw [hyn, Int.toNat_natCast] at hol
      omega
    · exact ⟨y.out, rfl, by omega⟩
  obtain ⟨o, ho, hol⟩ := hall
  have hfin : ∃ o2, takeHasF z f i = { y with commit := C, out := o2 } ∧ o2.length ≤ B + k + 1 := by
    unfold takeHasF
    rw [hhf, ho]
    split
    · exact ⟨_, rfl, by simp only [List.length_append, List.length_cons, List.length_nil]; omega⟩
    · exact ⟨o, rfl, by omega⟩
  obtain ⟨o2, ho2, hol2⟩ := hfin
  rw [ho2]
  refine ⟨⟨hyi, hyn, by rw [hy]; exact h.role, by rw [hy]; exact h.term, hlow, hhigh, by show L < y.log.length; rw [hyl]; exact h.len, hpl, by rw [List.length_set]; exact h.hl, ?_, hpb2, hC, by rw [hy]; exact h.heard, hol2⟩, hyl⟩
  intro j h1 h2 h3
  have hj : j < k := by rw [← hpl]; exact h1
  have h4 := hget j (by rw [hpl]; exact hj) (by rw [h.pl]; exact hj)
  refine h4.trans ?_
  rw [List.getElem_set]
  split
  · rfl
  · exact h.has j (by rw [h.pl]; exact hj) (by rw [h.hl]; exact hj) h3

/-- what the statement tells it -/
def toldM (f T1 i : Int) (yes : Bool) : MsgM := ⟨6, f, 0, T1, i, 0, 0, yes, []⟩
theorem told_counts {y : NodeM} {k L B : Nat} {T1 : Int} {hv : List Int} (h : LeadInv y k L T1 hv B) (f i : Int) (yes : Bool) (ht0 : 0 ≤ T1) (ht : T1 ≤ 1099511627776) : countsF y (toldM f T1 i yes) = decide (1 ≤ f ∧ f ≤ (k : Int) - 1) := by
  unfold countsF okHead okKind toldM
  rw [h.id, h.n]
  simp only [List.all_nil, Bool.and_true, List.length_nil]
  by_cases h1 : 1 ≤ f ∧ f ≤ (k : Int) - 1
  · rw [decide_eq_true h1]
    simp
    omega
  · rw [decide_eq_false h1, ← Bool.not_eq_true]
    simp
    omega
/-- what the statement notes -/
def notedF (hv : List Int) (k : Nat) (f i : Int) (yes : Bool) (last : Nat) : List Int := if 0 < f ∧ f < (k : Int) ∧ yes = true ∧ 0 ≤ i ∧ i ≤ last then hv.set f.toNat (max (hv.getD f.toNat 0) i) else hv
theorem lead_told {y : NodeM} {k L B : Nat} {T1 : Int} {hv : List Int} (h : LeadInv y k L T1 hv B) (hk : k ≤ 7) (f i : Int) (yes : Bool) (ht0 : 0 ≤ T1) (ht : T1 ≤ 1099511627776) :
    LeadInv (step6F y (toldM f T1 i yes)) k L T1 (notedF hv k f i yes y.log.length) (B + k + 1) ∧ (step6F y (toldM f T1 i yes)).log = y.log := by
  have hout : LeadInv y k L T1 hv (B + k + 1) := ⟨h.id, h.n, h.role, h.term, h.low, h.high, h.len, h.pl, h.hl, h.has, h.pb, h.commit, h.heard, by have := h.out; omega⟩
  unfold step6F
  rw [told_counts h f i yes ht0 ht]
  by_cases h1 : 1 ≤ f ∧ f ≤ (k : Int) - 1
  · rw [if_pos (decide_eq_true h1)]
    obtain ⟨n, hn⟩ : ∃ n : Nat, f = n := ⟨f.toNat, by omega⟩
    have hfn : (toldM f T1 i yes).f.toNat = n := by show f.toNat = n; omega
    have hfirst : firstF y T1 = y := by unfold firstF; rw [if_neg (by rw [h.term]; omega)]
    unfold ofTerm6F
    rw [hfn, show (toldM f T1 i yes).term = T1 from rfl, hfirst, if_neg (by rw [h.term]; omega), if_pos h.role]
    unfold takeToldF
    rw [show (toldM f T1 i yes).yes = yes from rfl, show (toldM f T1 i yes).i = i from rfl]
    have hhb := (hear_bits y.heard n h.heard (by omega)).2
    have hth : LeadInv (toldHeardF y n) k L T1 hv B := h.out_ y.out (y.heard ||| 2 ^ n) hhb h.out
    have hftn : f.toNat = n := by omega
    unfold notedF
    rw [hftn]
    cases yes
    · rw [if_pos rfl, if_neg (by rintro ⟨_, _, h9, _⟩; cases h9)]
      obtain ⟨h2, h3⟩ := lead_lacks hth n (by omega) i
      exact ⟨⟨h2.id, h2.n, h2.role, h2.term, h2.low, h2.high, h2.len, h2.pl, h2.hl, h2.has, h2.pb, h2.commit, h2.heard, by have := h2.out; omega⟩, h3⟩
    · rw [if_neg (by intro h9; cases h9)]
      by_cases hi : 0 ≤ i ∧ i ≤ y.log.length
      · have hfo : (termF y.log i).2 = true := by
          unfold termF
          rw [if_neg (by omega)]
          split <;> rfl
        rw [if_pos hfo, if_pos ⟨by omega, by omega, rfl, hi⟩]
        exact lead_has hth n (by omega) (by omega) i hi.1 hi.2
      · have hfo : (termF y.log i).2 = false := by
          unfold termF
          rw [if_pos (by omega)]
        rw [hfo, if_neg (by intro h9; cases h9), if_neg (fun h9 => hi h9.2.2.2)]
        exact ⟨⟨hth.id, hth.n, hth.role, hth.term, hth.low, hth.high, hth.len, hth.pl, hth.hl, hth.has, hth.pb, hth.commit, hth.heard, by have := hth.out; omega⟩, rfl⟩
  · rw [if_neg (by rw [decide_eq_false h1]; simp)]
    unfold notedF
    rw [if_neg (fun h9 => h1 ⟨by omega, by omega⟩)]
    exact ⟨hout, rfl⟩
end Go.Proofs.Ytlggkeoihpcdiaa

/- Plain facts of a node that asks, stands, and leads. -/
namespace Go.Proofs.Ytlggkeoihpcdiaa
open Go.RowKit

/-- a block of another type is none of the node's -/
theorem NodeAt.notOf {w : World} {base g b : Nat} {x : NodeM} {S : Nat → Prop} {t : TypeId} {cs : Array Value} (h : NodeAt w base g x S) (hB : Blk w b t cs) (h1 : 109 ≠ t) (h2 : 131 ≠ t) (h3 : 73 ≠ t) (h4 : 152 ≠ t) (h5 : 61 ≠ t) : ¬ S b := by
  obtain ⟨L, hL, hS⟩ := h
  obtain ⟨Al, cl, hlb, _⟩ := hL.log
  intro hs
  rcases (hS b).1 hs with e | e | e | e | e
  · exact hL.blk.apart hB h1 e.symm
  · exact hlb.apart hB h2 e.symm
  · obtain ⟨_, cur, hC⟩ := hL.log.foot_at b e
    exact hC.apart hB h3 rfl
  · obtain ⟨_, cur, hC⟩ := hL.peers.foot_at b e
    exact hC.apart hB h4 rfl
  · obtain ⟨_, cur, hC⟩ := hL.out.foot_at b e
    exact hC.apart hB h5 rfl
theorem NodeAt.aside {w : World} {base g b : Nat} {x : NodeM} {S : Nat → Prop} {t : TypeId} {cs : Array Value} (h : NodeAt w base g x S) (hB : Blk w b t cs) (h1 : 109 ≠ t) (h2 : 131 ≠ t) (h3 : 73 ≠ t) (h4 : 152 ≠ t) (h5 : 61 ≠ t) (i : Nat) (u : Value) : NodeAt (w.setCell ⟨b, i, none⟩ u) base g x S := by
  obtain ⟨L, hL, hS⟩ := h
  exact ⟨L, hL.aside hB h1 h2 h3 h4 h5 i u, hS⟩
theorem Turn0.blk {S : Nat → Prop} {a w : World} {k : Nat} {t : TypeId} {cs : Array Value} (h : Turn0 S a w) (hb : Blk a k t cs) (hk : ¬ S k) : Blk w k t cs := (h.block k hb.lt hk).trans hb
/-- what is noted of oneself tells nothing -/
theorem LeadInv.set0 {y : NodeM} {k L B : Nat} {T1 : Int} {hv : List Int} (h : LeadInv y k L T1 hv B) (v : Int) : LeadInv y k L T1 (hv.set 0 v) B :=
  ⟨h.id, h.n, h.role, h.term, h.low, h.high, h.len, h.pl, by rw [List.length_set]; exact h.hl, fun i h1 h2 h3 => by rw [List.getElem_set, if_neg (by omega)]; exact h.has i h1 (by simpa using h2) h3, h.pb, h.commit, h.heard, h.out⟩
theorem LeadInv.hasL_eq {y : NodeM} {k L B : Nat} {T1 : Int} {hv : List Int} (h : LeadInv y k L T1 hv B) : hasL y k = hv.set 0 (y.log.length : Int) := by
  refine List.ext_getElem (by rw [hasL_length, List.length_set, h.hl]) (fun j h1 h2 => ?_)
  have hj : j < k := by rw [hasL_length] at h1; exact h1
  rw [hasL_get y k h.id h.pl j h1 (by rw [h.pl]; exact hj), List.getElem_set]
  by_cases h0 : j = 0
  · subst h0
    simp
  · rw [if_neg h0, if_neg (by omega)]
    exact h.has j (by rw [h.pl]; exact hj) (by rw [h.hl]; exact hj) (by omega)
theorem committed_len (x : NodeM) (h0 : 0 ≤ x.commit) (h1 : x.commit ≤ x.log.length) : (((committedF x 1).length : Nat) : Int) = x.commit := by
  unfold committedF fromF fromN
  have e1 : (min (max (max 1 1) 1 - 1) (x.log.length : Int)).toNat = 0 := by omega
  have e2 : (min (max (x.commit - max 1 1 + 1) 0) ((x.log.length : Int) - min (max (max 1 1) 1 - 1) (x.log.length : Int))).toNat = x.commit.toNat := by omega
  simp only [e1, e2]
  rw [List.length_take, List.drop_zero]
  omega
theorem many_take (hs : List Int) (p : Nat) (hp : p < hs.length) (i : Int) : manyF (hs.take (p + 1)) i = manyF (hs.take p) i + (if i ≤ hs[p] then 1 else 0) := by
  unfold manyF
  rw [List.take_add_one, List.getElem?_eq_getElem hp, List.countP_append]
  by_cases h : i ≤ hs[p]
  · simp [h]
  · simp [h]
theorem many_le (hs : List Int) (i : Int) : manyF hs i ≤ hs.length := List.countP_le_length
theorem bits_up (j : Nat) (h : j < 6) : (2 ^ (j + 1) - 1) ||| 2 ^ (j + 1) = 2 ^ (j + 2) - 1 ∧ popc (2 ^ (j + 2) - 1) = j + 2 ∧ 2 ^ (j + 1) - 1 < 128 := by
  have : j = 0 ∨ j = 1 ∨ j = 2 ∨ j = 3 ∨ j = 4 ∨ j = 5 := by omega
  rcases this with rfl | rfl | rfl | rfl | rfl | rfl <;> decide
/-- a node on its way to lead: r its role, j + 1 how many said yes -/
structure PreInv (y : NodeM) (k : Nat) (l : List Ent) (T : Int) (r : Int) (j B : Nat) : Prop where
  id : y.id = 0
  n : y.n = (k : Int)
  role : y.role = r
  term : y.term = T
  log : y.log = l
  commit : y.commit = 0
  yes : y.yes = 2 ^ (j + 1) - 1
  out : y.out.length ≤ B
theorem PreInv.mono {y : NodeM} {k : Nat} {l : List Ent} {T r : Int} {j B B' : Nat} (h : PreInv y k l T r j B) (hB : B ≤ B') : PreInv y k l T r j B' := ⟨h.id, h.n, h.role, h.term, h.log, h.commit, h.yes, Nat.le_trans h.out hB⟩
theorem LeadInv.mono {y : NodeM} {k L B B' : Nat} {T1 : Int} {hv : List Int} (h : LeadInv y k L T1 hv B) (hB : B ≤ B') : LeadInv y k L T1 hv B' := ⟨h.id, h.n, h.role, h.term, h.low, h.high, h.len, h.pl, h.hl, h.has, h.pb, h.commit, h.heard, Nat.le_trans h.out hB⟩
theorem most_self (y : NodeM) (k : Nat) (hn : y.n = (k : Int)) (hk : 2 ≤ k) : mostF y (0 ||| 2 ^ 0) = false := by
  unfold mostF
  rw [hn, show popc (0 ||| 2 ^ 0) = 1 from by decide]
  rw [decide_eq_false_iff_not]
  omega
theorem pre_tick (k : Nat) (l : List Ent) (T : Int) (hk : 2 ≤ k) (hT : T < 1099511627776) : PreInv (tickF (newF 0 k 1 1 ⟨T, -1, l⟩) 0) k l T 1 0 k := by
  unfold tickF
  rw [if_neg (show ¬ (newF 0 k 1 1 ⟨T, -1, l⟩).role = 3 from (show ¬ (0 : Int) = 3 from by omega)), if_pos ⟨hT, (show (1 : Int) + max 0 0 % 1 ≤ 0 + 1 from by decide)⟩]
  show PreInv (hear1F (askAllF ⟨0, k, 1, 1, T, -1, l, 0, 1, -1, 0, 0, 0, [], [], false, 0⟩ 1 (T + 1)) 0) k l T 1 0 k
  obtain ⟨o, ho, hol⟩ := askAllF_told ⟨0, k, 1, 1, T, -1, l, 0, 1, -1, 0, 0, 0, [], [], false, 0⟩ 1 (T + 1)
  rw [ho]
  unfold hear1F
  rw [if_neg (by rw [most_self _ k rfl hk]; simp)]
  have h9 : o.length ≤ k := by simpa using hol
  exact ⟨rfl, rfl, rfl, rfl, rfl, rfl, by show 0 ||| 2 ^ 0 = 2 ^ (0 + 1) - 1; decide, h9⟩
theorem pre_counts {y : NodeM} {k : Nat} (hid : y.id = 0) (hn : y.n = (k : Int)) (q f t : Int) (hq : 1 ≤ q ∧ q ≤ 6) (hf : 1 ≤ f ∧ f ≤ (k : Int) - 1) (ht : 0 ≤ t ∧ t ≤ 1099511627776) : countsF y ⟨q, f, 0, t, 0, 0, 0, true, []⟩ = true := by
  unfold countsF okHead okKind
  rw [hid, hn]
  simp
  omega
theorem pre_step2 {y : NodeM} {k : Nat} {l : List Ent} {T : Int} {j B : Nat} (h : PreInv y k l T 1 j B) (hk : 2 ≤ k) (hk7 : k ≤ 7) (hj : j + 1 < k) (hT0 : 0 ≤ T) (hT : T < 1099511627776) :
    (2 * (j + 2) ≤ k → PreInv (step2F y ⟨2, ((j + 1 : Nat) : Int), 0, T + 1, 0, 0, 0, true, []⟩) k l T 1 (j + 1) B) ∧ (k < 2 * (j + 2) → PreInv (step2F y ⟨2, ((j + 1 : Nat) : Int), 0, T + 1, 0, 0, 0, true, []⟩) k l (T + 1) 2 0 (B + k)) := by
  obtain ⟨b1, b2, b3⟩ := bits_up j (by omega)
  have hs : step2F y ⟨2, ((j + 1 : Nat) : Int), 0, T + 1, 0, 0, 0, true, []⟩ = hear1F y (j + 1) := by
    unfold step2F
    rw [if_pos (pre_counts h.id h.n 2 _ _ (by omega) (by omega) (by omega))]
    have hp : preF y ⟨2, ((j + 1 : Nat) : Int), 0, T + 1, 0, 0, 0, true, []⟩ = y := if_neg (by rintro ⟨h9, _⟩; cases h9)
    unfold tellPreF
    rw [hp, if_pos ⟨rfl, by rw [h.term], h.role⟩]
    rfl
  have hm : mostF y (y.yes ||| 2 ^ (j + 1)) = decide ((k : Int) < 2 * ((j + 2 : Nat) : Int)) := by
    unfold mostF
    rw [h.yes, b1, b2, h.n]
  rw [hs]
  unfold hear1F
  rw [hm]
  constructor
  · intro h9
    rw [if_neg (by rw [decide_eq_false (show ¬ (k : Int) < 2 * ((j + 2 : Nat) : Int) by omega)]; simp)]
    exact ⟨h.id, h.n, h.role, h.term, h.log, h.commit, by show y.yes ||| 2 ^ (j + 1) = _; rw [h.yes, b1], h.out⟩
  · intro h9
    rw [if_pos (decide_eq_true (show (k : Int) < 2 * ((j + 2 : Nat) : Int) by omega))]
    obtain ⟨st, hst⟩ : ∃ st : NodeM, st = { heardF y (j + 1) with term := (heardF y (j + 1)).term + 1, vote := (heardF y (j + 1)).id, fresh := true, role := 2, since := 0, yes := 0 } := ⟨_, rfl⟩
    have hsf : standF (heardF y (j + 1)) = hear2F (askAllF st 3 ((heardF y (j + 1)).term + 1)) 0 := by
      rw [hst]
      unfold standF
      rw [show (heardF y (j + 1)).id.toNat = 0 from by show y.id.toNat = 0; rw [h.id]; rfl]
    have s1 : st.id = 0 := by rw [hst]; exact h.id
    have s2 : st.n = (k : Int) := by rw [hst]; exact h.n
    have s3 : st.role = 2 := by rw [hst]
    have s4 : st.term = T + 1 := by rw [hst]; show y.term + 1 = T + 1; rw [h.term]
    have s5 : st.log = l := by rw [hst]; exact h.log
    have s6 : st.commit = 0 := by rw [hst]; exact h.commit
    have s7 : st.yes = 0 := by rw [hst]
    have s8 : st.out.length ≤ B := by rw [hst]; exact h.out
    obtain ⟨o, ho, hol⟩ := askAllF_told st 3 ((heardF y (j + 1)).term + 1)
    rw [hsf, ho]
    rw [s2, Int.toNat_natCast] at hol
    have hnm : mostF { st with out := o } (st.yes ||| 2 ^ 0) = false := by rw [s7]; exact most_self _ k s2 hk
    unfold hear2F
    rw [if_neg (by rw [hnm]; simp)]
    exact ⟨s1, s2, s3, s4, s5, s6, by show st.yes ||| 2 ^ 0 = 2 ^ (0 + 1) - 1; rw [s7]; decide, by show o.length ≤ B + k; omega⟩
theorem pre_idle2 {y : NodeM} {k : Nat} {l : List Ent} {T : Int} {j B : Nat} (h : PreInv y k l (T + 1) 2 j B) (f : Int) (hf : 1 ≤ f ∧ f ≤ (k : Int) - 1) (hT0 : 0 ≤ T) (hT : T < 1099511627776) : step2F y ⟨2, f, 0, T + 1, 0, 0, 0, true, []⟩ = y := by
  unfold step2F
  rw [if_pos (pre_counts h.id h.n 2 _ _ (by omega) hf (by omega))]
  have hp : preF y ⟨2, f, 0, T + 1, 0, 0, 0, true, []⟩ = y := if_neg (by rintro ⟨h9, _⟩; cases h9)
  unfold tellPreF
  rw [hp, if_neg]
  rintro ⟨_, h9, _⟩
  rw [h.term] at h9
  simp only at h9
  omega
theorem lead_first {x : NodeM} {k : Nat} {l : List Ent} {T1 : Int} {B : Nat} (hid : x.id = 0) (hn : x.n = (k : Int)) (ht : x.term = T1) (hlog : x.log = l) (hc : x.commit = 0) (ho : x.out.length ≤ B) (hk : 2 ≤ k) (hl : l.length < 1024) (hlow : ∀ j (h : j < l.length), l[j].t < T1) (hT0 : 0 ≤ T1) : LeadInv (leadF x) k l.length T1 (List.replicate k 0) (B + k) ∧ (leadF x).log.length = l.length + 1 ∧ (leadF x).yes = x.yes ∧ (leadF x).commit = 0 := by
  have hlast : lastT l ≤ T1 := by
    rcases Nat.eq_zero_or_pos l.length with h0 | h0
    · rw [List.eq_nil_of_length_eq_zero h0]
      exact hT0
    · rw [lastT_at l (l.length - 1) (by omega)]
      have := hlow (l.length - 1) (by omega)
      omega
  obtain ⟨es, hes⟩ : ∃ es : List Ent, es = l ++ [(⟨T1, ⟨#[]⟩⟩ : Ent)] := ⟨_, rfl⟩
  have hel : es.length = l.length + 1 := by rw [hes]; simp
  obtain ⟨v, hv⟩ : ∃ v : NodeM, v = { x with role := 3, leader := x.id, since := 0, heard := 2 ^ x.id.toNat, peers := List.replicate x.n.toNat ⟨0, x.log.length + 1⟩ } := ⟨_, rfl⟩
  have hvl : v.log = l := by rw [hv]; exact hlog
  have hvt : v.term = T1 := by rw [hv]; exact ht
  have hadd : addF v.log ⟨v.term, ⟨#[]⟩⟩ = (es, 0) := by
    unfold addF
    rw [hvl, hvt, if_neg (by simp only; omega), if_neg (by omega), hes]
  obtain ⟨q, hq⟩ := unsaved_fr { v with log := es } (es.length : Int)
  obtain ⟨u, hu⟩ : ∃ u : NodeM, u = { v with log := es, fr := q } := ⟨_, rfl⟩
  have hup : u.peers = List.replicate k ⟨0, (l.length : Int) + 1⟩ := by rw [hu, hv]; simp [hn, hlog]
  have hul : u.log = es := by rw [hu]
  have hui : u.id = 0 := by rw [hu, hv]; exact hid
  have hun : u.n = (k : Int) := by rw [hu, hv]; exact hn
  have hut : u.term = T1 := by rw [hu]; exact hvt
  have hpl : u.peers.length = k := by rw [hup]; simp
  have hm0 : mostHas u ≤ 0 := by
    rcases Int.lt_or_le 0 (mostHas u) with h9 | h9
    · have h1 := (most_iff u k hun (by omega) 1).2 (by omega)
      have h2 : hasL u k = ((es.length : Nat) : Int) :: List.replicate (k - 1) 0 := by
        refine List.ext_getElem (by rw [hasL_length]; simp; omega) (fun j h1 h2 => ?_)
        have hj : j < k := by rw [hasL_length] at h1; exact h1
        rw [hasL_get u k hui hpl j h1 (by rw [hpl]; exact hj)]
        cases j with
        | zero => simp [hul]
        | succ j => simp [hup]
      rw [h2] at h1
      unfold manyF at h1
      rw [List.countP_cons, List.countP_replicate, if_neg (by decide)] at h1
      have h3 : (if decide ((1 : Int) ≤ ((es.length : Nat) : Int)) = true then 1 else 0) ≤ 1 := by split <;> omega
      omega
    · exact h9
  have hget : ∀ j (hj : j < u.log.length), (∃ h2 : j < l.length, u.log[j] = l[j]) ∨ (j = l.length ∧ u.log[j].t = T1) := by
    intro j hj
    rcases Nat.lt_or_ge j l.length with h9 | h9
    · exact .inl ⟨h9, by simp [hul, hes, h9]⟩
    · have hje : j = l.length := by rw [hul, hel] at hj; omega
      exact .inr ⟨hje, by simp [hul, hes, hje]⟩
  have hlo : ∀ j (hj : j < u.log.length), j < l.length → u.log[j].t < T1 := by
    intro j hj hL
    rcases hget j hj with ⟨h2, e⟩ | ⟨e, _⟩
    · rw [e]; exact hlow j h2
    · omega
  have hhi : ∀ j (hj : j < u.log.length), l.length ≤ j → u.log[j].t = T1 := by
    intro j hj hL
    rcases hget j hj with ⟨h2, e⟩ | ⟨_, e⟩
    · omega
    · exact e
  have huc : u.commit = 0 := by rw [hu, hv]; exact hc
  have hcm := lead_commit u l.length T1 (mostHas u) (by rw [huc, if_neg (by omega)]) (Int.le_refl _) (by rw [hul]; omega) hut hlo hhi
  rw [if_neg (show ¬ ((l.length : Int) + 1 ≤ mostHas u) by omega)] at hcm
  have haddN : addN v ⟨#[]⟩ = ({ u with commit := 0 }, 0) := by
    unfold addN
    rw [hadd, if_neg (by simp)]
    simp only
    rw [hq, ← hu, hcm]
  have hld : leadF x = sendAllF { u with commit := 0 } := by
    unfold leadF
    simp only
    rw [← hv, haddN, if_neg (by simp)]
  obtain ⟨o, hoo, hol⟩ := sendAllF_told { u with commit := 0 }
  rw [hld, hoo]
  refine ⟨⟨hui, hun, by rw [hu, hv], hut, hlo, hhi, by show l.length < u.log.length; rw [hul, hel]; omega, hpl, by simp, ?_, ?_, ?_, by rw [hu, hv]; show 2 ^ x.id.toNat < 128; rw [hid]; decide, ?_⟩, by show u.log.length = _; rw [hul, hel], by show u.yes = x.yes; rw [hu, hv], rfl⟩
  · intro i h1 h2 h3
    simp [hup]
  · intro p hp
    have hp2 : p ∈ List.replicate k (⟨0, (l.length : Int) + 1⟩ : PeerM) := by rw [← hup]; exact hp
    rw [List.eq_of_mem_replicate hp2]
    show (0 ≤ (0 : Int) ∧ (0 : Int) ≤ (u.log.length : Int)) ∧ 1 ≤ (l.length : Int) + 1 ∧ (l.length : Int) + 1 ≤ (u.log.length : Int) + 1
    rw [hul, hel]
    omega
  · show (0 : Int) = if (l.length : Int) + 1 ≤ mostHas u then mostHas u else 0
    rw [if_neg (by omega)]
  · have h9 : u.out = x.out := by rw [hu, hv]
    simp only at hol ⊢
    rw [h9, hun, Int.toNat_natCast] at hol
    omega
theorem pre_step4 {y : NodeM} {k : Nat} {l : List Ent} {T1 : Int} {j B : Nat} (h : PreInv y k l T1 2 j B) (hk : 2 ≤ k) (hk7 : k ≤ 7) (hj : j + 1 < k) (hT0 : 0 ≤ T1) (hT : T1 ≤ 1099511627776) (hl : l.length < 1024) (hlow : ∀ j (h : j < l.length), l[j].t < T1) :
    (2 * (j + 2) ≤ k → PreInv (step4F y ⟨4, ((j + 1 : Nat) : Int), 0, T1, 0, 0, 0, true, []⟩) k l T1 2 (j + 1) B) ∧ (k < 2 * (j + 2) → LeadInv (step4F y ⟨4, ((j + 1 : Nat) : Int), 0, T1, 0, 0, 0, true, []⟩) k l.length T1 (List.replicate k 0) (B + k) ∧ (step4F y ⟨4, ((j + 1 : Nat) : Int), 0, T1, 0, 0, 0, true, []⟩).log.length = l.length + 1 ∧ (step4F y ⟨4, ((j + 1 : Nat) : Int), 0, T1, 0, 0, 0, true, []⟩).yes < 128 ∧ (step4F y ⟨4, ((j + 1 : Nat) : Int), 0, T1, 0, 0, 0, true, []⟩).commit = 0) := by
  obtain ⟨b1, b2, b3⟩ := bits_up j (by omega)
  have hs : step4F y ⟨4, ((j + 1 : Nat) : Int), 0, T1, 0, 0, 0, true, []⟩ = hear2F y (j + 1) := by
    unfold step4F
    rw [if_pos (pre_counts h.id h.n 4 _ _ (by omega) (by omega) (by omega))]
    have hfirst : firstF y T1 = y := by unfold firstF; rw [if_neg (by rw [h.term]; omega)]
    unfold ofTerm4F
    simp only
    rw [hfirst, if_neg (by rw [h.term]; omega), if_pos ⟨trivial, h.role⟩]
    rfl
  have hm : mostF y (y.yes ||| 2 ^ (j + 1)) = decide ((k : Int) < 2 * ((j + 2 : Nat) : Int)) := by
    unfold mostF
    rw [h.yes, b1, b2, h.n]
  rw [hs]
  unfold hear2F
  rw [hm]
  constructor
  · intro h9
    rw [if_neg (by rw [decide_eq_false (show ¬ (k : Int) < 2 * ((j + 2 : Nat) : Int) by omega)]; simp)]
    exact ⟨h.id, h.n, h.role, h.term, h.log, h.commit, by show y.yes ||| 2 ^ (j + 1) = _; rw [h.yes, b1], h.out⟩
  · intro h9
    rw [if_pos (decide_eq_true (show (k : Int) < 2 * ((j + 2 : Nat) : Int) by omega))]
    obtain ⟨g1, g2, g3, g4⟩ := lead_first (x := heardF y (j + 1)) h.id h.n h.term h.log h.commit h.out hk hl hlow hT0
    refine ⟨g1, g2, ?_, g4⟩
    rw [g3]
    show y.yes ||| 2 ^ (j + 1) < 128
    rw [h.yes]
    exact Nat.or_lt_two_pow (n := 7) b3 (Nat.pow_lt_pow_right (by omega) (show j + 1 < 7 by omega))
theorem lead_idle4 {y : NodeM} {k L B : Nat} {T1 : Int} {hv : List Int} (h : LeadInv y k L T1 hv B) (f : Int) (hf : 1 ≤ f ∧ f ≤ (k : Int) - 1) (hT0 : 0 ≤ T1) (hT : T1 ≤ 1099511627776) : step4F y ⟨4, f, 0, T1, 0, 0, 0, true, []⟩ = y := by
  unfold step4F
  rw [if_pos (pre_counts h.id h.n 4 _ _ (by omega) hf (by omega))]
  have hfirst : firstF y T1 = y := by unfold firstF; rw [if_neg (by rw [h.term]; omega)]
  unfold ofTerm4F
  simp only
  rw [hfirst, if_neg (by rw [h.term]; omega), if_neg (fun h9 => by have := h9.2; rw [h.role] at this; omega)]
end Go.Proofs.Ytlggkeoihpcdiaa
