/- Records as lists of bytes: what any bytes tell, what is left of them behind a crash, and that a turned byte ends the reading ahead of it. No program is named. -/
import Derived.BigQuiet
import Derived.Deep.QuietTactic
import Derived.Test.YtlggkeoihpcdiaaJ1
import Derived.Test.YtlggkeoihpcdiaaJ2
import Derived.Test.YtlggkeoihpcdiaaJ3
namespace Go.Proofs.Ytlggkeoihpcdiaa

theorem lenF_ok : ∀ (b : List UInt8), (lenF b).2 = 0 → ∃ t, b = hd (lenF b).1 ++ t
  | [], h => absurd h (by simp [lenF])
  | [_], h => absurd h (by simp [lenF])
  | [_, _], h => absurd h (by simp [lenF])
  | [_, _, _], h => absurd h (by simp [lenF])
  | b0 :: b1 :: b2 :: b3 :: t, h => by
    simp only [lenF] at h ⊢
    by_cases h1 : b0 + b2 = 255 ∧ b1 + b3 = 255
    · rw [if_pos h1] at h ⊢
      by_cases h2 : 4096 < b0.toNat * 256 + b1.toNat
      · rw [if_pos h2] at h
        simp at h
      · rw [if_neg h2]
        refine ⟨t, ?_⟩
        have hb := b1.toNat_lt
        have e1 : UInt8.ofNat ((b0.toNat * 256 + b1.toNat) / 256) = b0 := by
          rw [show (b0.toNat * 256 + b1.toNat) / 256 = b0.toNat from by omega]
          exact UInt8.ofNat_toNat
        have e2 : UInt8.ofNat (b0.toNat * 256 + b1.toNat) = b1 := by
          apply UInt8.toNat_inj.1
          rw [UInt8.toNat_ofNat']
          omega
        unfold hd
        simp only [e1, e2, List.cons_append, List.nil_append]
        rw [← (byte_sum _ _).1 h1.1, ← (byte_sum _ _).1 h1.2]
    · rw [if_neg h1] at h
      simp at h

/-- what is taken off is a frame -/
theorem takeF_inv (b : List UInt8) (h : (takeF b).e = 0) : b = frameOf (takeF b).p ++ b.drop (takeF b).n ∧ (takeF b).p.length ≤ 4096 := by
  refine ⟨?_, (takeF_some b h).2.2⟩
  by_cases h1 : (lenF b).2 ≠ 0
  · have e : takeF b = ⟨[], 0, (lenF b).2⟩ := by unfold takeF; rw [if_pos h1]
    rw [e] at h
    exact absurd h h1
  by_cases h2 : b.length < (lenF b).1 + 8
  · have e : takeF b = ⟨[], 0, 2⟩ := by unfold takeF; rw [if_neg h1, if_pos h2]
    rw [e] at h
    exact absurd h (by decide)
  by_cases h3 : le4 (crcOf ((b.drop 4).take (lenF b).1)) = (b.drop (4 + (lenF b).1)).take 4
  · have e : takeF b = ⟨(b.drop 4).take (lenF b).1, (lenF b).1 + 8, 0⟩ := by unfold takeF; rw [if_neg h1, if_neg h2, if_pos h3]
    rw [e]
    obtain ⟨t, ht⟩ := lenF_ok b (by omega)
    clear e h h1
    generalize (lenF b).1 = N at *
    subst ht
    have d4 : (hd N ++ t).drop 4 = t := List.drop_left' rfl
    rw [← List.drop_drop, d4] at h3
    show hd N ++ t = frameOf (((hd N ++ t).drop 4).take N) ++ (hd N ++ t).drop (N + 8)
    have d8 : (hd N ++ t).drop (N + 8) = (t.drop N).drop 4 := by rw [show N + 8 = 4 + (N + 4) from by omega, ← List.drop_drop, d4, List.drop_drop]
    have hl : (t.take N).length = N := by
      rw [List.length_append, hd_length] at h2
      rw [List.length_take]
      omega
    rw [d8, d4]
    unfold frameOf
    rw [hl, h3]
    simp only [List.append_assoc]
    rw [List.take_append_drop, List.take_append_drop]
  · have e : takeF b = ⟨[], 0, 3⟩ := by unfold takeF; rw [if_neg h1, if_neg h2, if_neg h3]
    rw [e] at h
    exact absurd h (by decide)

/-- what stands behind a frame makes no difference -/
theorem takeF_more (b r : List UInt8) (h : (takeF b).e = 0) : takeF (b ++ r) = takeF b := by
  obtain ⟨h1, h2⟩ := takeF_inv b h
  generalize (takeF b).p = p at *
  generalize b.drop (takeF b).n = q at *
  rw [h1, List.append_assoc, takeF_frame p _ h2, takeF_frame p _ h2]

/-- a part of a frame, a byte of it turned, isn't read -/
theorem takeF_torn (p : List UInt8) (j a : Nat) (y : UInt8) (h : p.length ≤ 4096) (hj : j < p.length + 8) : (takeF (((frameOf p).take j).set a y)).e ≠ 0 := by
  have hfl := frameOf_length p
  have hp2 := takeF_part p j h hj
  by_cases ha : a < j
  · by_cases hy : (frameOf p)[a]? = some y
    · have h1 : ((frameOf p).take j)[a]? = some y := by rw [List.getElem?_take, if_pos ha]; exact hy
      obtain ⟨hlt, hv⟩ := List.getElem?_eq_some_iff.1 h1
      rw [← hv, List.set_getElem_self, hp2]
      decide
    · intro h0
      have h1 := takeF_more _ ((frameOf p).drop j) h0
      have e : ((frameOf p).take j).set a y ++ (frameOf p).drop j = (frameOf p).set a y ++ [] := by
        rw [List.append_nil, ← List.set_append_left _ _ (by rw [List.length_take]; omega), List.take_append_drop]
      rw [e] at h1
      exact takeF_turned p [] a y h (by omega) hy (by rw [h1]; exact h0)
  · rw [List.set_eq_of_length_le (by rw [List.length_take]; omega), hp2]
    decide

/-! ### records -/
/-- a record: its kind, its bytes -/
abbrev RecM := UInt8 × List UInt8
def RightM (r : RecM) : Prop := r.1 ≠ 0 ∧ r.2.length < 4096
def recB (r : RecM) : List UInt8 := frameOf (r.1 :: r.2)
def recsB (rs : List RecM) : List UInt8 := (rs.map recB).flatten
theorem recB_length (r : RecM) : (recB r).length = r.2.length + 9 := by unfold recB; rw [frameOf_length]; rfl
theorem recsB_nil : recsB [] = [] := rfl
theorem recsB_cons (r : RecM) (rs : List RecM) : recsB (r :: rs) = recB r ++ recsB rs := rfl
theorem recsB_append (a b : List RecM) : recsB (a ++ b) = recsB a ++ recsB b := by unfold recsB; rw [List.map_append, List.flatten_append]

/-- the records, where the last one ends, and the error's number; fuel for so many bytes -/
def readF : Nat → List UInt8 → List RecM × Nat × Nat
  | 0, _ => ([], 0, 0)
  | f + 1, b => if b.length = 0 then ([], 0, 0) else if (takeF b).e ≠ 0 then ([], 0, (takeF b).e) else
    if (takeF b).p.headD 0 = 0 then ([], 0, 2) else
    (((takeF b).p.headD 0, (takeF b).p.tail) :: (readF f (b.drop (takeF b).n)).1, (takeF b).n + (readF f (b.drop (takeF b).n)).2.1, (readF f (b.drop (takeF b).n)).2.2)
theorem readF_fuel : ∀ (f g : Nat) (b : List UInt8), b.length ≤ f → b.length ≤ g → readF f b = readF g b
  | 0, g, b, hf, hg => by
    have : b = [] := List.eq_nil_of_length_eq_zero (by omega)
    subst this
    cases g <;> rfl
  | f + 1, 0, b, hf, hg => by
    have : b = [] := List.eq_nil_of_length_eq_zero (by omega)
    subst this
    rfl
  | f + 1, g + 1, b, hf, hg => by
    unfold readF
    by_cases h0 : b.length = 0
    · rw [if_pos h0, if_pos h0]
    by_cases he : (takeF b).e ≠ 0
    · rw [if_neg h0, if_neg h0, if_pos he, if_pos he]
    have hn := takeF_some b (by omega)
    rw [readF_fuel f g (b.drop (takeF b).n) (by rw [List.length_drop]; omega) (by rw [List.length_drop]; omega)]
/-- what any bytes tell -/
def readB (b : List UInt8) : List RecM × Nat × Nat := readF b.length b
theorem readB_nil : readB [] = ([], 0, 0) := rfl
theorem readB_open (b : List UInt8) : readB b = if b.length = 0 then ([], 0, 0) else if (takeF b).e ≠ 0 then ([], 0, (takeF b).e) else
    if (takeF b).p.headD 0 = 0 then ([], 0, 2) else
    (((takeF b).p.headD 0, (takeF b).p.tail) :: (readB (b.drop (takeF b).n)).1, (takeF b).n + (readB (b.drop (takeF b).n)).2.1, (readB (b.drop (takeF b).n)).2.2) := by
  have e : readB b = readF (b.length + 1) b := readF_fuel _ _ _ (Nat.le_refl _) (by omega)
  have e2 : readB (b.drop (takeF b).n) = readF b.length (b.drop (takeF b).n) := readF_fuel _ _ _ (Nat.le_refl _) (by rw [List.length_drop]; omega)
  rw [e, e2]
  rfl
theorem readB_stop (b : List UInt8) (he : (takeF b).e ≠ 0) : (readB b).1 = [] ∧ (readB b).2.1 = 0 := by
  rw [readB_open]
  by_cases h0 : b.length = 0
  · rw [if_pos h0]; exact ⟨rfl, rfl⟩
  · rw [if_neg h0, if_pos he]; exact ⟨rfl, rfl⟩
theorem readB_next (b : List UInt8) (x : UInt8) (d : List UInt8) (n : Nat) (h0 : b.length ≠ 0) (ht : takeF b = ⟨x :: d, n, 0⟩) (hx : x ≠ 0) :
    readB b = ((x, d) :: (readB (b.drop n)).1, n + (readB (b.drop n)).2.1, (readB (b.drop n)).2.2) := by
  rw [readB_open, if_neg h0, if_neg (by rw [ht]; simp), if_neg (by rw [ht]; exact hx), ht]
  rfl
theorem readB_cons (r : RecM) (b : List UInt8) (h : RightM r) : readB (recB r ++ b) = (r :: (readB b).1, (recB r).length + (readB b).2.1, (readB b).2.2) := by
  have ht : takeF (recB r ++ b) = ⟨r.1 :: r.2, r.2.length + 9, 0⟩ := takeF_frame (r.1 :: r.2) b (by have := h.2; simp; omega)
  have hl := recB_length r
  rw [readB_next _ _ _ _ (by rw [List.length_append]; omega) ht h.1, ← hl, List.drop_left]
theorem readB_recs (b : List UInt8) : ∀ (rs : List RecM), (∀ r ∈ rs, RightM r) → readB (recsB rs ++ b) = (rs ++ (readB b).1, (recsB rs).length + (readB b).2.1, (readB b).2.2)
  | [], _ => by simp [recsB_nil]
  | r :: rs, h => by
    rw [recsB_cons, List.append_assoc, readB_cons r _ (h r (by simp)), readB_recs b rs (fun x hx => h x (by simp [hx]))]
    simp [Nat.add_assoc]
/-- what is read are the records of the first bytes -/
theorem readB_inv : ∀ (n : Nat) (b : List UInt8), b.length ≤ n → (readB b).2.1 ≤ b.length ∧ b.take (readB b).2.1 = recsB (readB b).1 ∧ ∀ r ∈ (readB b).1, RightM r
  | 0, b, hn => by
    have : b = [] := List.eq_nil_of_length_eq_zero (by omega)
    subst this
    exact ⟨Nat.le_refl _, rfl, fun r hr => by cases hr⟩
  | n + 1, b, hn => by
    rw [readB_open]
    by_cases h0 : b.length = 0
    · rw [if_pos h0]
      exact ⟨Nat.zero_le _, rfl, fun r hr => by cases hr⟩
    by_cases he : (takeF b).e ≠ 0
    · rw [if_neg h0, if_pos he]
      exact ⟨Nat.zero_le _, rfl, fun r hr => by cases hr⟩
    by_cases hk : (takeF b).p.headD 0 = 0
    · rw [if_neg h0, if_neg he, if_pos hk]
      exact ⟨Nat.zero_le _, rfl, fun r hr => by cases hr⟩
    rw [if_neg h0, if_neg he, if_neg hk]
    have he0 : (takeF b).e = 0 := by omega
    obtain ⟨k1, k2, k3⟩ := takeF_some b he0
    obtain ⟨hb, _⟩ := takeF_inv b he0
    obtain ⟨i1, i2, i3⟩ := readB_inv n (b.drop (takeF b).n) (by rw [List.length_drop]; omega)
    generalize readB (b.drop (takeF b).n) = R at *
    generalize takeF b = T at *
    have hp : T.p = T.p.headD 0 :: T.p.tail := by
      cases hq : T.p with
      | nil => rw [hq] at hk; exact absurd rfl hk
      | cons x t => rfl
    rw [List.length_drop] at i1
    refine ⟨by show T.n + R.2.1 ≤ b.length; omega, ?_, ?_⟩
    · show b.take (T.n + R.2.1) = recsB ((T.p.headD 0, T.p.tail) :: R.1)
      rw [recsB_cons, ← i2]
      unfold recB
      simp only
      rw [← hp]
      conv => lhs; rw [hb]
      rw [List.take_append, frameOf_length, k1, List.take_of_length_le (by rw [frameOf_length]; omega), show T.p.length + 8 + R.2.1 - (T.p.length + 8) = R.2.1 from by omega]
    · intro r hr
      rcases List.mem_cons.1 hr with rfl | hr
      · refine ⟨hk, ?_⟩
        have := congrArg List.length hp
        simp only [List.length_cons] at this
        show T.p.tail.length < 4096
        omega
      · exact i3 r hr
/-- recovered again it is as it was -/
theorem readB_again (b : List UInt8) : readB (b.take (readB b).2.1) = ((readB b).1, (readB b).2.1, 0) := by
  obtain ⟨h1, h2, h3⟩ := readB_inv _ b (Nat.le_refl _)
  have h4 := readB_recs [] _ h3
  rw [List.append_nil, ← h2, readB_nil, List.length_take] at h4
  rw [h4]
  simp only [List.append_nil, Nat.add_zero]
  rw [show min (readB b).2.1 b.length = (readB b).2.1 from by omega]

/-- behind a crash: of what wasn't synced some of the first ones -/
theorem readB_crash : ∀ (tl : List RecM), (∀ r ∈ tl, RightM r) → ∀ (j a : Nat) (y : UInt8), ∃ k, k ≤ tl.length ∧ (readB (((recsB tl).take j).set a y)).1 = tl.take k
  | [], _, j, a, y => ⟨0, by simp, by rw [recsB_nil]; simp [readB_nil]⟩
  | r :: tl, h, j, a, y => by
    have hr := h r (by simp)
    have hl := recB_length r
    have hp : (r.1 :: r.2).length ≤ 4096 := by have := hr.2; simp; omega
    have hpl : (r.1 :: r.2).length + 8 = (recB r).length := by rw [hl]; rfl
    rw [recsB_cons]
    by_cases hj : j < (recB r).length
    · refine ⟨0, by omega, ?_⟩
      rw [List.take_append_of_le_length (by omega)]
      exact (readB_stop _ (takeF_torn (r.1 :: r.2) j a y hp (by omega))).1
    · rw [List.take_append, List.take_of_length_le (by omega)]
      by_cases ha : a < (recB r).length
      · rw [List.set_append_left _ _ ha]
        by_cases hy : (recB r)[a]? = some y
        · obtain ⟨hlt, hv⟩ := List.getElem?_eq_some_iff.1 hy
          rw [← hv, List.set_getElem_self]
          obtain ⟨k, hk, he⟩ := readB_crash tl (fun x hx => h x (by simp [hx])) (j - (recB r).length) ((recsB tl).take (j - (recB r).length)).length y
          rw [List.set_eq_of_length_le (Nat.le_refl _)] at he
          exact ⟨k + 1, by simp; omega, by rw [readB_cons r _ hr, he, List.take_succ_cons]⟩
        · exact ⟨0, by omega, (readB_stop _ (takeF_turned (r.1 :: r.2) _ a y hp ha hy)).1⟩
      · rw [List.set_append_right _ _ (by omega)]
        obtain ⟨k, hk, he⟩ := readB_crash tl (fun x hx => h x (by simp [hx])) (j - (recB r).length) (a - (recB r).length) y
        exact ⟨k + 1, by simp; omega, by rw [readB_cons r _ hr, he, List.take_succ_cons]⟩
/-- a byte that is another one ends the reading ahead of it -/
theorem readB_spoilt (m : List UInt8) (y : UInt8) : ∀ (l : List RecM), (∀ r ∈ l, RightM r) → ∀ (i : Nat), i < (recsB l).length → (recsB l)[i]? ≠ some y → (readB ((recsB l).set i y ++ m)).2.1 < (recsB l).length
  | [], _, i, hi, _ => absurd hi (by simp [recsB_nil])
  | r :: l, h, i, hi, hy => by
    have hr := h r (by simp)
    have hl := recB_length r
    have hp : (r.1 :: r.2).length ≤ 4096 := by have := hr.2; simp; omega
    rw [recsB_cons] at hi hy ⊢
    by_cases ha : i < (recB r).length
    · rw [List.getElem?_append_left ha] at hy
      have hs := (readB_stop ((recB r).set i y ++ (recsB l ++ m)) (takeF_turned (r.1 :: r.2) _ i y hp ha hy)).2
      rw [List.set_append_left _ _ ha, List.append_assoc, hs]
      omega
    · rw [List.getElem?_append_right (by omega)] at hy
      rw [List.length_append] at hi
      rw [List.set_append_right _ _ (by omega), List.append_assoc, readB_cons r _ hr, List.length_append]
      have := readB_spoilt m y l (fun x hx => h x (by simp [hx])) (i - (recB r).length) (by omega) hy
      show (recB r).length + _ < _
      omega
end Go.Proofs.Ytlggkeoihpcdiaa

/- Records, more: what the payloads of all frames tell; how far a reading has come; a record's bytes; texts of bytes. No program is named. -/
namespace Go.Proofs.Ytlggkeoihpcdiaa

/-- the records of payloads, up to the first that may not be: the records, how many bytes their frames have, whether all may be -/
def recP : List (List UInt8) → List RecM × Nat × Bool
  | [] => ([], 0, true)
  | p :: ps => if p.headD 0 = 0 then ([], 0, false) else ((p.headD 0, p.tail) :: (recP ps).1, p.length + 8 + (recP ps).2.1, (recP ps).2.2)

theorem readF_all : ∀ (f : Nat) (b : List UInt8), readF f b = if (recP (allF f b).1).2.2 then ((recP (allF f b).1).1, (allF f b).2.1, (allF f b).2.2) else ((recP (allF f b).1).1, (recP (allF f b).1).2.1, 2)
  | 0, b => rfl
  | f + 1, b => by
    unfold readF allF
    by_cases h0 : b.length = 0
    · rw [if_pos h0, if_pos h0]
      rfl
    by_cases he : (takeF b).e ≠ 0
    · rw [if_neg h0, if_neg h0, if_pos he, if_pos he]
      rfl
    rw [if_neg h0, if_neg h0, if_neg he, if_neg he]
    have hn := (takeF_some b (by omega)).1
    have ih := readF_all f (b.drop (takeF b).n)
    simp only
    unfold recP
    by_cases hk : (takeF b).p.headD 0 = 0
    · rw [if_pos hk, if_pos hk]
      rfl
    rw [if_neg hk, if_neg hk, ih]
    simp only
    by_cases hc : (recP (allF f (b.drop (takeF b).n)).1).2.2 = true
    · rw [if_pos hc, if_pos hc]
    · rw [if_neg hc, if_neg hc, hn]
theorem readB_all (b : List UInt8) : readB b = if (recP (allF b.length b).1).2.2 then ((recP (allF b.length b).1).1, (allF b.length b).2.1, (allF b.length b).2.2) else ((recP (allF b.length b).1).1, (recP (allF b.length b).1).2.1, 2) := readF_all _ _
theorem recP_bound : ∀ (f : Nat) (b : List UInt8), (recP (allF f b).1).2.1 ≤ b.length
  | 0, b => Nat.zero_le _
  | f + 1, b => by
    unfold allF
    by_cases h0 : b.length = 0
    · rw [if_pos h0]
      exact Nat.zero_le _
    by_cases he : (takeF b).e ≠ 0
    · rw [if_neg h0, if_pos he]
      exact Nat.zero_le _
    rw [if_neg h0, if_neg he]
    obtain ⟨h1, h2, _⟩ := takeF_some b (by omega)
    have ih := recP_bound f (b.drop (takeF b).n)
    rw [List.length_drop] at ih
    simp only
    unfold recP
    by_cases hk : (takeF b).p.headD 0 = 0
    · rw [if_pos hk]
      exact Nat.zero_le _
    rw [if_neg hk]
    simp only
    omega
theorem allF_count : ∀ (f : Nat) (b : List UInt8), 8 * (allF f b).1.length ≤ b.length
  | 0, b => Nat.zero_le _
  | f + 1, b => by
    unfold allF
    by_cases h0 : b.length = 0
    · rw [if_pos h0]
      exact Nat.zero_le _
    by_cases he : (takeF b).e ≠ 0
    · rw [if_neg h0, if_pos he]
      exact Nat.zero_le _
    rw [if_neg h0, if_neg he]
    obtain ⟨h1, h2, _⟩ := takeF_some b (by omega)
    have ih := allF_count f (b.drop (takeF b).n)
    rw [List.length_drop] at ih
    simp only [List.length_cons]
    omega

/-- so far: k payloads, the records rs, whose frames have so many bytes -/
def RUp (ps : List (List UInt8)) (k : Nat) (rs : List RecM) (n : Nat) : Prop :=
  k ≤ ps.length ∧ rs.length = k ∧ recP ps = (rs ++ (recP (ps.drop k)).1, n + (recP (ps.drop k)).2.1, (recP (ps.drop k)).2.2)
theorem RUp.start (ps : List (List UInt8)) : RUp ps 0 [] 0 := ⟨Nat.zero_le _, rfl, by simp⟩
theorem RUp.stop {ps : List (List UInt8)} {k n : Nat} {rs : List RecM} (h : RUp ps k rs n) (hk : k = ps.length) : recP ps = (rs, n, true) := by
  obtain ⟨_, _, h⟩ := h
  rw [List.drop_of_length_le (by omega)] at h
  simpa [recP] using h
theorem RUp.fault {ps : List (List UInt8)} {k n : Nat} {rs : List RecM} {p : List UInt8} (h : RUp ps k rs n) (hp : ps[k]? = some p) (h0 : p.headD 0 = 0) : recP ps = (rs, n, false) := by
  obtain ⟨_, _, h⟩ := h
  obtain ⟨hlt, rfl⟩ := List.getElem?_eq_some_iff.1 hp
  rw [List.drop_eq_getElem_cons hlt] at h
  rw [h]
  unfold recP
  rw [if_pos h0]
  simp
theorem RUp.next {ps : List (List UInt8)} {k n : Nat} {rs : List RecM} {p : List UInt8} (h : RUp ps k rs n) (hp : ps[k]? = some p) (h0 : p.headD 0 ≠ 0) : RUp ps (k + 1) (rs ++ [(p.headD 0, p.tail)]) (n + (p.length + 8)) ∧ n + (p.length + 8) ≤ (recP ps).2.1 := by
  obtain ⟨_, hl, h⟩ := h
  obtain ⟨hlt, rfl⟩ := List.getElem?_eq_some_iff.1 hp
  rw [List.drop_eq_getElem_cons hlt] at h
  have e : recP (ps[k] :: ps.drop (k + 1)) = ((ps[k].headD 0, ps[k].tail) :: (recP (ps.drop (k + 1))).1, ps[k].length + 8 + (recP (ps.drop (k + 1))).2.1, (recP (ps.drop (k + 1))).2.2) := by
    conv => lhs; unfold recP
    rw [if_neg h0]
  rw [e] at h
  simp only at h
  refine ⟨⟨hlt, by simp [hl], ?_⟩, ?_⟩
  · rw [h]
    simp [Nat.add_assoc]
  · rw [h]
    simp only
    omega

/-- so far, in the document's own way -/
def BUp (b : List UInt8) (rs : List RecM) (n : Nat) : Prop :=
  n ≤ b.length ∧ 9 * rs.length ≤ n ∧ readB b = (rs ++ (readB (b.drop n)).1, n + (readB (b.drop n)).2.1, (readB (b.drop n)).2.2)
theorem BUp.start (b : List UInt8) : BUp b [] 0 := ⟨Nat.zero_le _, Nat.le_refl _, by simp⟩
theorem BUp.stop {b : List UInt8} {rs : List RecM} {n : Nat} (h : BUp b rs n) (hn : n = b.length) : readB b = (rs, n, 0) := by
  obtain ⟨_, _, h⟩ := h
  rw [List.drop_of_length_le (by omega)] at h
  simpa [readB_nil] using h
theorem BUp.fault {b : List UInt8} {rs : List RecM} {n : Nat} (h : BUp b rs n) (hn : n < b.length) (he : (takeF (b.drop n)).e ≠ 0) : readB b = (rs, n, (takeF (b.drop n)).e) := by
  obtain ⟨_, _, h⟩ := h
  rw [readB_open (b.drop n), if_neg (by rw [List.length_drop]; omega), if_pos he] at h
  simpa using h
theorem BUp.form {b : List UInt8} {rs : List RecM} {n : Nat} (h : BUp b rs n) (hn : n < b.length) (he : (takeF (b.drop n)).e = 0) (hk : (takeF (b.drop n)).p.headD 0 = 0) : readB b = (rs, n, 2) := by
  obtain ⟨_, _, h⟩ := h
  rw [readB_open (b.drop n), if_neg (by rw [List.length_drop]; omega), if_neg (by omega), if_pos hk] at h
  simpa using h
theorem BUp.next {b : List UInt8} {rs : List RecM} {n : Nat} (h : BUp b rs n) (hn : n < b.length) (he : (takeF (b.drop n)).e = 0) (hk : (takeF (b.drop n)).p.headD 0 ≠ 0) :
    BUp b (rs ++ [((takeF (b.drop n)).p.headD 0, (takeF (b.drop n)).p.tail)]) (n + (takeF (b.drop n)).n) := by
  obtain ⟨h1, h9, h⟩ := h
  obtain ⟨k1, k2, _⟩ := takeF_some _ he
  rw [List.length_drop] at k2
  rw [readB_open (b.drop n), if_neg (by rw [List.length_drop]; omega), if_neg (by omega), if_neg hk, List.drop_drop] at h
  have hp : 1 ≤ (takeF (b.drop n)).p.length := by
    cases hq : (takeF (b.drop n)).p with
    | nil => rw [hq] at hk; exact absurd rfl hk
    | cons x t => simp
  refine ⟨by omega, by simp only [List.length_append, List.length_cons, List.length_nil]; omega, ?_⟩
  rw [h]
  simp [Nat.add_assoc]

/-- the bytes of a record, or why there are none -/
def bytesF (r : RecM) : List UInt8 × Nat := if r.1 = 0 then ([], 1) else if 4096 ≤ r.2.length then ([], 4) else (recB r, 0)

/-- a text of these bytes -/
def tok (l : List UInt8) : ByteArray := ⟨l.toArray⟩
theorem tok_size (l : List UInt8) : (tok l).size = l.length := by unfold tok; rw [← text_len]
theorem tok_app (l m : List UInt8) : tok l ++ tok m = tok (l ++ m) := text_app l m
theorem tok_list (l : List UInt8) : (tok l).data.toList = l := by unfold tok; simp
end Go.Proofs.Ytlggkeoihpcdiaa

/- The walks of package word's Reader: it goes over bytes as a plain machine does. -/
namespace Go.Proofs.Ytlggkeoihpcdiaa
open Go.RowKit

/-- what is left, and whether it failed -/
structure RS where
  l : List UInt8
  bad : Bool
def RS.failed : RS := ⟨[], true⟩
/-- the next n bytes, if they are all there -/
def RS.take (s : RS) (n : Nat) : Option (List UInt8) := if s.bad = false ∧ n ≤ s.l.length then some (s.l.take n) else none
def RS.behind (s : RS) (n : Nat) : RS := if s.bad = false ∧ n ≤ s.l.length then ⟨s.l.drop n, false⟩ else RS.failed
def RS.int (s : RS) (least most : Int) : Int × RS :=
  match s.take 8 with
  | none => (0, RS.failed)
  | some p => if wrap64 (num p) < least ∨ most < wrap64 (num p) then (0, RS.failed) else (wrap64 (num p), s.behind 8)
def RS.text (s : RS) (most : Int) : List UInt8 × RS :=
  match s.take 2 with
  | none => ([], RS.failed)
  | some p => if most < (num p : Int) then ([], RS.failed) else
    match (s.behind 2).take (num p) with
    | none => ([], RS.failed)
    | some q => (q, (s.behind 2).behind (num p))
def RS.bool (s : RS) : Bool × RS :=
  match s.take 1 with
  | none => (false, RS.failed)
  | some p => if 1 < num p then (false, RS.failed) else (num p == 1, s.behind 1)

/-- a row that is not empty has bytes for elements -/
def RowOf (w : World) (A : Option Addr) (n : Nat) : Prop := 0 < n → ∀ a, A = some a → ∃ cs fr, w.heap[a.block]? = some (.cells cs 5 fr)

/-- the reader that lies in block g -/
def Rdr (w : World) (g : Nat) (s : RS) : Prop :=
  ∃ A c, Blk w g 141 #[.slice A s.l.length c, .bool s.bad] ∧ Sees w g A s.l.length (cbs s.l) ∧ s.l.length ≤ c ∧ c ≤ maxLen ∧ (s.bad = true → s.l = []) ∧ RowOf w A s.l.length
theorem Rdr.failed_ {w : World} {g : Nat} (h : Blk w g 141 #[.slice none 0 0, .bool true]) : Rdr w g RS.failed :=
  ⟨none, 0, h, Sees.none_ _ _ _, Nat.le_refl _, by decide, fun _ => rfl, fun h => absurd h (by simp [RS.failed])⟩
theorem Rdr.keep {w w' : World} {g : Nat} {s : RS} (h : Rdr w g s) (hk : ∀ k, k ≤ g → w'.heap[k]? = w.heap[k]?) : Rdr w' g s := by
  obtain ⟨A, c, h1, h2, h3, h4, h5, h6⟩ := h
  refine ⟨A, c, (hk g (Nat.le_refl _)).trans h1, h2.keep fun p hp => World.cell?_of_block (hk p.block (by omega)), h3, h4, h5, fun hn a ha => ?_⟩
  obtain ⟨b, off, hA, hb, _⟩ := h2.2 hn
  obtain ⟨cs, fr, hcs⟩ := h6 hn a ha
  rw [hA] at ha
  injection ha with ha
  subst ha
  exact ⟨cs, fr, (hk b (by omega)).trans hcs⟩
theorem Rdr.lt {w : World} {g : Nat} {s : RS} (h : Rdr w g s) : g < w.heap.size := by
  obtain ⟨A, c, h1, _⟩ := h
  exact h1.lt
theorem Rdr.below {w w' : World} {g B : Nat} {s : RS} (h : Rdr w g s) (hb : Below B w w') (hB : g < B) : Rdr w' g s := h.keep fun k hk => hb.block k (by omega)
theorem Rdr.drew {w : World} {g : Nat} {s : RS} (h : Rdr w g s) : Rdr w.drew g s := h
theorem Rdr.drewN {w : World} {g : Nat} {s : RS} (h : Rdr w g s) (n : Nat) : Rdr (w.drewN n) g s := h
theorem Rdr.alloc {w : World} {g : Nat} {s : RS} (h : Rdr w g s) (o : Obj) : Rdr (w.alloc o) g s := h.keep fun k hk => Below.heap_alloc w o k (by have := h.lt; omega)

theorem row_set {w : World} {g : Nat} {A A' : Option Addr} {n m : Nat} {xs : List Value} (hs : Sees w g A n xs) (h : RowOf w A n) (hm : m ≤ n) (hA : ∀ a, A' = some a → ∃ a', A = some a' ∧ a.block = a'.block) (u : Value) : RowOf (w.setCell ⟨g, 0, none⟩ u) A' m := by
  intro hm0 a ha
  obtain ⟨a', h1, h2⟩ := hA a ha
  obtain ⟨b, off, hb, hlt, _⟩ := hs.2 (by omega)
  obtain ⟨cs, fr, hcs⟩ := h (by omega) a' h1
  rw [h1] at hb
  injection hb with hb
  subst hb
  rw [h2]
  exact ⟨cs, fr, (Below.heap_setCell w _ u b (by have := hlt; exact Nat.ne_of_lt this)).trans hcs⟩

set_option maxRecDepth 100000 in
set_option maxHeartbeats 400000 in
theorem fail_any (g : Nat) (v0 v1 : Value) (w : World) (hb : Blk w g 141 #[v0, v1]) :
    Calls Try.prog 112 #[.pointer (some ⟨g, 0, none⟩)] w fun e w' => e = .returned (.tuple #[]) ∧ Rdr w' g RS.failed ∧ w.grownBy w' (some g) := by
  have c0 : w.cell? ⟨g, 0, none⟩ = some v0 := by rw [hb.cell]; rfl
  have c1 : w.cell? ⟨g, 1, none⟩ = some v1 := by rw [hb.cell]; rfl
  have f0 := hb.frozen 0
  have f1 := hb.frozen 1
  have HB := Lib.hid hb
  clear hb
  go_enter Try.func112, Try.ntmps112
  go_wp2_with fail
  go_end0
  exact ⟨rfl, Rdr.failed_ ((HB.out.set_ 1 (.bool true)).set_ 0 (.slice none 0 0)), gb_set (gb_set (gb_refl w _) _ _) _ _⟩

set_option maxRecDepth 100000 in
set_option maxHeartbeats 400000 in
/-- Reader.Fail -/
theorem rFail_any (g : Nat) (s : RS) (w : World) (h : Rdr w g s) :
    Calls Try.prog 113 #[.pointer (some ⟨g, 0, none⟩)] w fun e w' => e = .returned (.bool s.bad) ∧ w' = w := by
  obtain ⟨A, c, hb, _⟩ := h
  have c1 : w.cell? ⟨g, 1, none⟩ = some (.bool s.bad) := by rw [hb.cell]; rfl
  clear hb
  go_enter Try.func113, Try.ntmps113
  go_wp2_with fail
  go_ret
  exact ⟨rfl, rfl⟩
set_option maxRecDepth 100000 in
/-- .. of nil -/
theorem rFail_nil (w : World) :
    Calls Try.prog 113 #[.pointer none] w fun e w' => e = .returned (.bool true) ∧ w' = w := by
  go_enter Try.func113, Try.ntmps113
  go_wp2_with fail
  go_ret
  exact ⟨rfl, rfl⟩

/-- what take answers where so many bytes are left -/
def Took (g n : Nat) (s : RS) (w : World) (e : Ending) (w' : World) : Prop :=
  ∃ A c, e = .returned (.tuple #[.slice A n c, .bool true]) ∧ Sees w' g A n (cbs (s.l.take n)) ∧ Rdr w' g (s.behind n) ∧ w.grownBy w' (some g)

set_option maxRecDepth 100000 in
set_option maxHeartbeats 400000 in
/-- Reader.take, where so many bytes are left -/
theorem take_yes (g n : Nat) (s : RS) (w : World) (h : Rdr w g s) (hb : s.bad = false) (hn : n ≤ s.l.length) :
    Calls Try.prog 110 #[.pointer (some ⟨g, 0, none⟩), .int .i64 (n : Int)] w (Took g n s w) := by
  have HF := Lib.hid (fun W => rFail_any g s W)
  have HR := Lib.hid h
  obtain ⟨A, c, hblk, hsee, hlc, hcm, _, hrow⟩ := h
  obtain ⟨l, bad⟩ := s
  simp only at hb hn hsee hlc hblk hrow
  subst hb
  have c0 : w.cell? ⟨g, 0, none⟩ = some (.slice A l.length c) := by rw [hblk.cell]; rfl
  have c1 : w.cell? ⟨g, 1, none⟩ = some (.bool false) := by rw [hblk.cell]; rfl
  have f0 := hblk.frozen 0
  have HB := Lib.hid hblk
  clear hblk
  have HS := Lib.hid hsee
  clear hsee
  have HW := Lib.hid hrow
  clear hrow
  unfold maxLen at hcm
  have hnot : ¬ (l.length : Int) < (n : Int) := by omega
  go_enter Try.func110, Try.ntmps110
  go_wp2_with (go_at_call 113; refine (HF.out _ HR.out).mono ?_; rintro e w' ⟨rfl, rfl⟩)
  case inl =>
    have hcn : c = n := by assumption
    have hd := HS.out.drop hn hlc
    rw [if_pos hcn] at hd
    have hl : (l.drop n).length = l.length - n := by simp
    have hset := HB.out.set_ 0 (.slice A (l.length - n) 0)
    go_ret2
    refine ⟨A, n, rfl, ?_, ?_, gb_set (gb_refl _ _) _ _⟩
    · have := (HS.out.take hn).setCell (p := ⟨g, 0, none⟩) (Nat.le_refl _) (.slice A (l.length - n) 0)
      unfold cbs at this ⊢
      rwa [List.map_take]
    · have e : (RS.mk l false).behind n = ⟨l.drop n, false⟩ := by simp [RS.behind, hn]
      rw [e]
      refine ⟨A, 0, by simp only [hl]; exact hset, ?_, by simp; omega, by decide, by simp, row_set HS.out HW.out (by simp) (fun a h => ⟨a, h, rfl⟩) _⟩
      simp only [hl]
      have := hd.setCell (p := ⟨g, 0, none⟩) (Nat.le_refl _) (.slice A (l.length - n) 0)
      unfold cbs at this ⊢
      rwa [List.map_drop]
  case inr =>
    have hcn : ¬ c = n := by assumption
    have hd := HS.out.drop hn hlc
    rw [if_neg hcn] at hd
    have hl : (l.drop n).length = l.length - n := by simp
    have hset := HB.out.set_ 0 (.slice (Option.map (fun x => x.add n) A) (l.length - n) (c - n))
    go_ret2
    refine ⟨A, c, rfl, ?_, ?_, gb_set (gb_refl _ _) _ _⟩
    · have := (HS.out.take hn).setCell (p := ⟨g, 0, none⟩) (Nat.le_refl _) (.slice (Option.map (fun x => x.add n) A) (l.length - n) (c - n))
      unfold cbs at this ⊢
      rwa [List.map_take]
    · have e : (RS.mk l false).behind n = ⟨l.drop n, false⟩ := by simp [RS.behind, hn]
      rw [e]
      refine ⟨_, c - n, by simp only [hl]; exact hset, ?_, by simp; omega, by unfold maxLen; omega, by simp, row_set HS.out HW.out (by simp) (fun a h => by obtain ⟨a', h1, h2⟩ := Option.map_eq_some_iff.1 h; exact ⟨a', h1, by rw [← h2]; unfold Addr.add; split <;> rfl⟩) _⟩
      simp only [hl]
      have := hd.setCell (p := ⟨g, 0, none⟩) (Nat.le_refl _) (.slice (Option.map (fun x => x.add n) A) (l.length - n) (c - n))
      unfold cbs at this ⊢
      rwa [List.map_drop]

set_option maxRecDepth 100000 in
set_option maxHeartbeats 400000 in
/-- Reader.take, where it failed, or so many bytes aren't left -/
theorem take_no (g n : Nat) (s : RS) (w : World) (h : Rdr w g s) (hn : ¬ (s.bad = false ∧ n ≤ s.l.length)) :
    Calls Try.prog 110 #[.pointer (some ⟨g, 0, none⟩), .int .i64 (n : Int)] w fun e w' => e = .returned (.tuple #[.slice none 0 0, .bool false]) ∧ Rdr w' g RS.failed ∧ w.grownBy w' (some g) := by
  have HF := Lib.hid (fun W => rFail_any g s W)
  have HR := Lib.hid h
  obtain ⟨A, c, hblk, hsee, hlc, hcm, hbl, _⟩ := h
  obtain ⟨l, bad⟩ := s
  simp only at hn hsee hlc hblk hbl
  unfold maxLen at hcm
  have c0 : w.cell? ⟨g, 0, none⟩ = some (.slice A l.length c) := by rw [hblk.cell]; rfl
  have HB := Lib.hid hblk
  clear hblk hsee
  cases bad
  · have hlt : (l.length : Int) < (n : Int) := by simp at hn; omega
    clear hbl hn
    have HX := Lib.hid (fun W => fail_any g (.slice A l.length c) (.bool false) W)
    go_enter Try.func110, Try.ntmps110
    go_wp2_with (first | (go_at_call 113; refine (HF.out _ HR.out).mono ?_; rintro e w' ⟨rfl, rfl⟩) | (go_at_call 112; refine (HX.out _ HB.out).mono ?_; rintro e w' ⟨rfl, hr, hg⟩))
    go_ret2
    exact ⟨rfl, hr, hg⟩
  · have hl0 := hbl rfl
    subst hl0
    clear hbl hn
    go_enter Try.func110, Try.ntmps110
    go_wp2_with (go_at_call 113; refine (HF.out _ HR.out).mono ?_; rintro e w' ⟨rfl, rfl⟩)
    go_ret2
    exact ⟨rfl, HR.out, gb_refl _ _⟩

theorem num_take_ret (s : RS) (n : Nat) (h : s.bad = false ∧ n ≤ s.l.length) : s.take n = some (s.l.take n) := if_pos h
theorem num_take_none (s : RS) (n : Nat) (h : ¬ (s.bad = false ∧ n ≤ s.l.length)) : s.take n = none := if_neg h
set_option maxRecDepth 100000 in
theorem fail_rdr (g : Nat) (s : RS) (w : World) (h : Rdr w g s) :
    Calls Try.prog 112 #[.pointer (some ⟨g, 0, none⟩)] w fun e w' => e = .returned (.tuple #[]) ∧ Rdr w' g RS.failed ∧ w.grownBy w' (some g) := by
  obtain ⟨A, c, hb, _⟩ := h
  exact fail_any g _ _ w hb

set_option maxRecDepth 100000 in
set_option maxHeartbeats 800000 in
/-- Reader.Int -/
theorem rInt_any (g : Nat) (s : RS) (least most : Int) (w : World) (h : Rdr w g s) :
    Calls Try.prog 93 #[.pointer (some ⟨g, 0, none⟩), .int .i64 least, .int .i64 most] w fun e w' => e = .returned (.int .i64 (s.int least most).1) ∧ Rdr w' g (s.int least most).2 ∧ w.grownBy w' (some g) := by
  by_cases hn : s.bad = false ∧ 8 ≤ s.l.length
  · have ht := num_take_ret s 8 hn
    have hy := take_yes g 8 s w h hn.1 hn.2
    unfold Took at hy
    have h8 : (s.l.take 8).length = 8 := by rw [List.length_take]; omega
    unfold RS.int
    rw [ht]
    simp only
    generalize hp : s.l.take 8 = p at *
    generalize s.behind 8 = s' at *
    have HY := Lib.hid hy
    clear hy ht hp h hn
    by_cases hlo : wrap64 (num p) < least ∨ most < wrap64 (num p)
    · rw [if_pos hlo]
      generalize hv : num p = v at *
      have HV := Lib.hid hv
      clear hv h8
      go_enter Try.func93, Try.ntmps93
      go_wp2_with fail
      refine HY.out.mono ?_
      rintro e w1 ⟨A, c, rfl, hs1, hr1, hg1⟩
      go_wp2_with fail
      refine (number_any A 8 c p g _ hs1 (by omega)).mono ?_
      rintro e w2 ⟨rfl, rfl⟩
      rw [HV.out]
      go_wp2_with (go_at_call 112; refine (fail_rdr g s' _ hr1).mono ?_; rintro e w3 ⟨rfl, hr2, hg2⟩)
      all_goals
        go_ret
        exact ⟨rfl, hr2, gb_trans hg1 hg2⟩
    · rw [if_neg hlo]
      generalize hv : num p = v at *
      have HV := Lib.hid hv
      clear hv h8
      have h1 : ¬ wrap64 v < least := fun h => hlo (.inl h)
      have h2 : ¬ most < wrap64 v := fun h => hlo (.inr h)
      clear hlo
      go_enter Try.func93, Try.ntmps93
      go_wp2_with fail
      refine HY.out.mono ?_
      rintro e w1 ⟨A, c, rfl, hs1, hr1, hg1⟩
      go_wp2_with fail
      refine (number_any A 8 c p g _ hs1 (by omega)).mono ?_
      rintro e w2 ⟨rfl, rfl⟩
      rw [HV.out]
      go_wp2_with fail
      go_ret
      exact ⟨rfl, hr1, hg1⟩
  · have ht := num_take_none s 8 hn
    have hy := take_no g 8 s w h hn
    unfold RS.int
    rw [ht]
    simp only
    have HY := Lib.hid hy
    clear hy ht h hn
    go_enter Try.func93, Try.ntmps93
    go_wp2_with fail
    refine HY.out.mono ?_
    rintro e w1 ⟨rfl, hr1, hg1⟩
    go_wp2_with fail
    go_ret
    exact ⟨rfl, hr1, hg1⟩

theorem num_two (p : List UInt8) (h : p.length = 2) : num p < 65536 := by
  have := num_lt p
  rw [h] at this
  exact this

set_option maxRecDepth 100000 in
set_option maxHeartbeats 800000 in
/-- Reader.Text -/
theorem rText_any (g : Nat) (s : RS) (most : Int) (w : World) (h : Rdr w g s) :
    Calls Try.prog 96 #[.pointer (some ⟨g, 0, none⟩), .int .i64 most] w fun e w' => e = .returned (.string ⟨(s.text most).1.toArray⟩) ∧ Rdr w' g (s.text most).2 ∧ w.grownBy w' (some g) := by
  have hcv := fun W A n c l h => conv_sees (P := Try.prog) W 27 9 5 sl_u8 Try.underlying5 Try.underlying9 g A n c l h
  have HC := Lib.hid hcv
  clear hcv
  by_cases hn : s.bad = false ∧ 2 ≤ s.l.length
  · have ht := num_take_ret s 2 hn
    have hy := take_yes g 2 s w h hn.1 hn.2
    unfold Took at hy
    have h2 : (s.l.take 2).length = 2 := by rw [List.length_take]; omega
    unfold RS.text
    rw [ht]
    simp only
    generalize hp : s.l.take 2 = p at *
    generalize s.behind 2 = s' at *
    have hlt := num_two p h2
    have HY := Lib.hid hy
    clear hy ht hp h hn
    by_cases hlo : most < (num p : Int)
    · rw [if_pos hlo]
      generalize hv : num p = v at *
      have HV := Lib.hid hv
      clear hv h2
      go_enter Try.func96, Try.ntmps96
      go_wp2_with fail
      refine HY.out.mono ?_
      rintro e w1 ⟨A, c, rfl, hs1, hr1, hg1⟩
      go_wp2_with fail
      refine (number_any A 2 c p g _ hs1 (by omega)).mono ?_
      rintro e w2 ⟨rfl, rfl⟩
      rw [HV.out]
      go_wp2_with (go_at_call 112; refine (fail_rdr g s' _ hr1).mono ?_; rintro e w3 ⟨rfl, hr2, hg2⟩)
      go_ret
      exact ⟨rfl, hr2, gb_trans hg1 hg2⟩
    · rw [if_neg hlo]
      generalize hv : num p = v at *
      have HV := Lib.hid hv
      clear hv h2
      by_cases hm : s'.bad = false ∧ v ≤ s'.l.length
      · rw [num_take_ret s' v hm]
        simp only
        have hy2 := fun W hr => take_yes g v s' W hr hm.1 hm.2
        unfold Took at hy2
        generalize s'.l.take v = q at *
        generalize s'.behind v = s2 at *
        have HY2 := Lib.hid hy2
        clear hy2 hm
        go_enter Try.func96, Try.ntmps96
        go_wp2_with fail
        refine HY.out.mono ?_
        rintro e w1 ⟨A, c, rfl, hs1, hr1, hg1⟩
        go_wp2_with fail
        refine (number_any A 2 c p g _ hs1 (by omega)).mono ?_
        rintro e w2 ⟨rfl, rfl⟩
        rw [HV.out]
        go_wp2_with fail
        refine (HY2.out _ hr1).mono ?_
        rintro e w3 ⟨A2, c2, rfl, hs3, hr3, hg3⟩
        have hcv := HC.out w3 A2 v c2 q hs3
        go_wp2_with fail
        go_ret
        exact ⟨rfl, hr3, gb_trans hg1 hg3⟩
      · rw [num_take_none s' v hm]
        simp only
        have HY2 := Lib.hid (fun W hr => take_no g v s' W hr hm)
        clear hm
        go_enter Try.func96, Try.ntmps96
        go_wp2_with fail
        refine HY.out.mono ?_
        rintro e w1 ⟨A, c, rfl, hs1, hr1, hg1⟩
        go_wp2_with fail
        refine (number_any A 2 c p g _ hs1 (by omega)).mono ?_
        rintro e w2 ⟨rfl, rfl⟩
        rw [HV.out]
        go_wp2_with fail
        refine (HY2.out _ hr1).mono ?_
        rintro e w3 ⟨rfl, hr3, hg3⟩
        have hcv := HC.out w3 none 0 0 [] (Sees.none_ _ _ _)
        go_wp2_with fail
        go_ret
        exact ⟨rfl, hr3, gb_trans hg1 hg3⟩
  · have ht := num_take_none s 2 hn
    have hy := take_no g 2 s w h hn
    unfold RS.text
    rw [ht]
    simp only
    have HY := Lib.hid hy
    clear hy ht h hn
    go_enter Try.func96, Try.ntmps96
    go_wp2_with fail
    refine HY.out.mono ?_
    rintro e w1 ⟨rfl, hr1, hg1⟩
    go_wp2_with fail
    go_ret
    exact ⟨rfl, hr1, hg1⟩
end Go.Proofs.Ytlggkeoihpcdiaa

/- What a node keeps, as lists: states, saves, their records, and what records tell: plain facts. No program is named. -/
namespace Go.Proofs.Ytlggkeoihpcdiaa
open Go.RowKit

/-- a state -/
structure StP where
  t : Int
  v : Int
  es : List Ent
/-- terms from one on that don't fall, up to another one; data that aren't too long -/
def entsOk : Int → Int → List Ent → Bool
  | _, _, [] => true
  | t, T, e :: l => decide (t ≤ e.t) && decide (e.t ≤ T) && decide (e.s.size ≤ 512) && entsOk e.t T l
/-- whether a state may be -/
def rightS (s : StP) : Bool := decide (0 ≤ s.t ∧ s.t ≤ 1099511627776) && decide (-1 ≤ s.v ∧ s.v ≤ 6) && decide (s.es.length ≤ 1024) && entsOk 1 s.t s.es
theorem upT_cons (t : Int) (e : Ent) (l : List Ent) (k : Nat) (hk : k ≤ l.length) : upT t (e :: l) (k + 1) = upT e.t l k := by
  cases k with
  | zero => simp [upT]
  | succ k => rw [upT_succ _ _ _ (by simp; omega), upT_succ _ _ _ (by omega)]; simp
theorem entsOk_bad (t T : Int) (l : List Ent) (k : Nat) (hk : k < l.length) (h : ¬ (upT t l k ≤ l[k].t ∧ l[k].t ≤ T ∧ l[k].s.size ≤ 512)) : entsOk t T l = false := by
  induction l generalizing t k with
  | nil => simp at hk
  | cons e l ih =>
    unfold entsOk
    cases k with
    | zero =>
      rw [upT_zero] at h
      simp only [List.getElem_cons_zero] at h
      have : (decide (t ≤ e.t) && decide (e.t ≤ T) && decide (e.s.size ≤ 512)) = false := by
        rw [← Bool.not_eq_true, Bool.and_eq_true, Bool.and_eq_true, decide_eq_true_iff, decide_eq_true_iff, decide_eq_true_iff]
        omega
      rw [this]
      rfl
    | succ k =>
      rw [upT_cons _ _ _ _ (by simp at hk; omega)] at h
      simp only [List.getElem_cons_succ] at h
      rw [ih e.t k (by simpa using hk) h, Bool.and_false]
theorem entsOk_all (t T : Int) (l : List Ent) (h : ∀ (k : Nat) (hk : k < l.length), upT t l k ≤ l[k].t ∧ l[k].t ≤ T ∧ l[k].s.size ≤ 512) : entsOk t T l = true := by
  induction l generalizing t with
  | nil => rfl
  | cons e l ih =>
    unfold entsOk
    have h0 := h 0 (by simp)
    rw [upT_zero] at h0
    simp only [List.getElem_cons_zero] at h0
    rw [ih e.t (fun k hk => ?_), decide_eq_true h0.1, decide_eq_true h0.2.1, decide_eq_true h0.2.2]
    · rfl
    · have := h (k + 1) (by simpa using hk)
      rw [upT_cons _ _ _ _ (by omega)] at this
      simpa using this

/-! ### records -/
def intB (m : Int) : List UInt8 := be (u64n m) 8
/-- the record of a term and a vote -/
def hardR (t v : Int) : RecM := (1, intB t ++ intB v)
/-- an entry's, at an index -/
def entR (i : Int) (e : Ent) : RecM := (2, intB i ++ intB e.t ++ textBytes e.s)
/-- a save -/
structure SvP where
  hard : Bool
  t : Int
  v : Int
  f : Int
  es : List Ent
/-- the first k of a save's entries' records -/
def entsK (f : Int) (es : List Ent) (k : Nat) : List RecM := (List.range k).map fun (i : Nat) => entR (wrap64 (f + (i : Int))) (es.getD i ⟨0, ⟨#[]⟩⟩)
def recordsF (s : SvP) : List RecM := (if s.hard then [hardR s.t s.v] else []) ++ entsK s.f s.es s.es.length
theorem entsK_succ (f : Int) (es : List Ent) (k : Nat) (hk : k < es.length) : entsK f es (k + 1) = entsK f es k ++ [entR (wrap64 (f + k)) es[k]] := by
  unfold entsK
  rw [List.range_succ, List.map_append, List.map_cons, List.map_nil, List.getD_eq_getElem?_getD, List.getElem?_eq_getElem hk]
  rfl
theorem entsK_length (f : Int) (es : List Ent) (k : Nat) : (entsK f es k).length = k := by simp [entsK]
theorem recordsF_length (s : SvP) : (recordsF s).length = (if s.hard then 1 else 0) + s.es.length := by
  unfold recordsF
  rw [List.length_append, entsK_length]
  split <;> simp

/-! ### what records tell -/
def playR (s : StP) (r : RecM) : Option StP :=
  if r.1 = 1 then
    let a := (⟨r.2, false⟩ : RS).int 0 1099511627776
    let b := a.2.int (-1) 6
    if b.2.bad = false ∧ b.2.l = [] then some ⟨a.1, b.1, s.es⟩ else none
  else if r.1 = 2 then
    let a := (⟨r.2, false⟩ : RS).int 1 ((s.es.length : Int) + 1)
    let b := a.2.int 1 1099511627776
    let c := b.2.text 512
    if c.2.bad = false ∧ c.2.l = [] then some ⟨s.t, s.v, s.es.take (a.1 - 1).toNat ++ [⟨b.1, ⟨c.1.toArray⟩⟩]⟩ else none
  else none
def playL : StP → List RecM → Option StP
  | s, [] => some s
  | s, r :: l => (playR s r).bind fun s' => playL s' l
def play0 : StP := ⟨0, -1, []⟩
/-- none: not of the form -/
def playF (l : List RecM) : Option StP := (playL play0 l).bind fun s => if rightS s then some s else none
theorem playL_snoc (s : StP) (l : List RecM) (r : RecM) : playL s (l ++ [r]) = (playL s l).bind fun s' => playR s' r := by
  induction l generalizing s with
  | nil =>
    show (playR s r).bind (fun s' => some s') = playR s r
    cases playR s r <;> rfl
  | cons x l ih =>
    simp only [List.cons_append, playL]
    cases playR s x with
    | none => rfl
    | some s' => exact ih s'
theorem playL_none (s : StP) (l : List RecM) (k : Nat) (h : playL s (l.take k) = none) : playL s l = none := by
  induction l generalizing s k with
  | nil => simpa using h
  | cons x l ih =>
    cases k with
    | zero => simp [playL] at h
    | succ k =>
      simp only [List.take_succ_cons, playL] at h ⊢
      cases hx : playR s x with
      | none => rfl
      | some s' =>
        rw [hx] at h
        exact ih s' k h
end Go.Proofs.Ytlggkeoihpcdiaa

/- The walks of package hard's Right, of the document's own Right and Same (kissinggateref06), and of the statements' few. -/
namespace Go.Proofs.Ytlggkeoihpcdiaa
open Go.RowKit

set_option maxRecDepth 100000 in
/-- hard.within -/
theorem within_any (n a b : Int) (r : Bool) (hr : (decide (a ≤ n) && decide (n ≤ b)) = r) (w : World) :
    Calls Try.prog 44 #[.int .i64 n, .int .i64 a, .int .i64 b] w fun e w' => e = .returned (.bool r) ∧ w' = w := by
  subst hr
  by_cases h : a ≤ n
  · rw [decide_eq_true h, Bool.true_and]
    go_enter Try.func44, Try.ntmps44
    go_wp2_with fail
    go_ret
    exact ⟨rfl, rfl⟩
  · rw [decide_eq_false h, Bool.false_and]
    have h' : n < a := by omega
    go_enter Try.func44, Try.ntmps44
    go_wp2_with fail
    go_ret
    exact ⟨by first | rfl | (show Ending.returned (.bool (decide (a ≤ n))) = _; rw [decide_eq_false h]), rfl⟩

/-- a state's cells -/
def StAt (w : World) (g : Nat) (t v : Int) (A : Option Addr) (n c : Nat) : Prop := Blk w g 25 #[.int .i64 t, .int .i64 v, .slice A n c]

set_option maxRecDepth 100000 in
set_option maxHeartbeats 800000 in
/-- hard.Right -/
theorem right_any (s : StP) (A : Option Addr) (n c : Nat) (w : World) (hs : Ents w w.heap.size A s.es) (hl : s.es.length = n) (hn : n ≤ 1099511627776) :
    Calls Try.prog 14 #[.agg #[.int .i64 s.t, .int .i64 s.v, .slice A n c]] w fun e w' => e = .returned (.bool (rightS s)) ∧ Below w.heap.size w w' := by
  obtain ⟨t, v, es⟩ := s
  simp only at hs hl ⊢
  have hA := Blk.new w 25 #[.int .i64 t, .int .i64 v, .slice A n c]
  have hb0 := (Below.refl w.heap.size w).alloc (Nat.le_refl _) (.cells #[.int .i64 t, .int .i64 v, .slice A n c] 25)
  have HC := Lib.hid (fun (W : World) (hW : Below (w.alloc (.cells #[.int .i64 t, .int .i64 v, .slice A n c] 25)).heap.size (w.alloc (.cells #[.int .i64 t, .int .i64 v, .slice A n c] 25)) W) =>
    have hk := hA.below hW hA.lt
    (⟨by rw [hk.cell]; rfl, by rw [hk.cell]; rfl, by rw [hk.cell]; rfl⟩ : W.cell? ⟨w.heap.size, 0, none⟩ = some (.int .i64 t) ∧ W.cell? ⟨w.heap.size, 1, none⟩ = some (.int .i64 v) ∧ W.cell? ⟨w.heap.size, 2, none⟩ = some (.slice A n c)))
  obtain ⟨c0, c1, c2⟩ := HC.out _ (Below.refl _ _)
  have HS := Lib.hid (Sees.on hs hb0)
  have HB := Lib.hid hb0
  unfold rightS
  simp only
  clear hA hs hb0
  by_cases h1 : 0 ≤ t ∧ t ≤ 1099511627776
  · have q1 := fun W => within_any t 0 1099511627776 true (by simp [h1.1, h1.2]) W
    rw [decide_eq_true h1, Bool.true_and]
    by_cases h2 : -1 ≤ v ∧ v ≤ 6
    · have q2 := fun W => within_any v (-1) 6 true (by simp [h2.1, h2.2]) W
      rw [decide_eq_true h2, Bool.true_and]
      by_cases h3 : n ≤ 1024
      · have h3' : ¬ (1024 : Int) < (n : Int) := by omega
        rw [decide_eq_true (show es.length ≤ 1024 by omega), Bool.true_and]
        have Q1 := Lib.hid q1
        have Q2 := Lib.hid q2
        clear q1 q2 h1 h2
        generalize hR : entsOk 1 t es = R
        have HR := Lib.hid hR
        clear hR
        go_enter Try.func14, Try.ntmps14
        go_wp2_with fail
        generalize w.alloc (.cells #[.int .i64 t, .int .i64 v, .slice A n c] 25) = w0 at *
        refine (Q1.out _).mono ?_
        rintro e w1 ⟨rfl, rfl⟩
        go_wp2_with fail
        refine (Q2.out _).mono ?_
        rintro e w2 ⟨rfl, rfl⟩
        go_wp2_with fail
        clear Q1 Q2 c0 c1 c2
        go_loopw [3, 25] (fun lv iv wr => ∃ k : Nat, k ≤ n ∧ lv = .int .i64 (upT 1 es k) ∧ iv = .int .i64 (k : Int) ∧ (∀ (j : Nat) (hj : j < es.length), j < k → upT 1 es j ≤ es[j].t ∧ es[j].t ≤ t ∧ es[j].s.size ≤ 512) ∧ Below w2.heap.size w2 wr) (fun _ iv _ => n - (intOf iv).toNat)
        case atStart => exact ⟨0, Nat.zero_le _, by rw [upT_zero], rfl, (fun j _ h => absurd h (by omega)), Below.refl _ _⟩
        case round =>
          obtain ⟨k, hk, rfl, rfl, hup, hbel⟩ := hrel
          by_cases hlt : k < n
          · have hkl : k < es.length := by omega
            obtain ⟨b, off, rfl, hbl, d0, d1⟩ := Ents.at_ HS.out hkl
            have d0' := (hbel.cell (p := ⟨b, off + k * 2, none⟩) hbl).trans d0
            have d1' := (hbel.cell (p := ⟨b, off + k * 2 + 1, none⟩) hbl).trans d1
            have hlt' : (k : Int) < (n : Int) := by omega
            have hnx := upT_succ 1 es k hkl
            have hbad := entsOk_bad 1 t es k hkl
            rw [HR.out] at hbad
            have HUP := Lib.hid hup
            have HX : ∃ x, es[k] = x := ⟨_, rfl⟩
            obtain ⟨x, hx⟩ := HX
            rw [hx] at d0' d1' hnx hbad
            have HXX := Lib.hid hx
            have HBAD := Lib.hid hbad
            have HNX := Lib.hid hnx
            have HU : ∃ u, upT 1 es k = u := ⟨_, rfl⟩
            obtain ⟨u, hu⟩ := HU
            rw [hu]
            rw [hu] at hbad
            have HUU := Lib.hid hu
            have HBAD := Lib.hid hbad
            obtain ⟨c0, c1, c2⟩ := HC.out wr hbel
            have hA2 := Blk.new wr 73 #[.int .i64 x.t, .string x.s]
            have HB2 := Lib.hid (hbel.alloc hbel.size (.cells #[.int .i64 x.t, .string x.s] 73))
            have e0 : (wr.alloc (.cells #[.int .i64 x.t, .string x.s] 73)).cell? ⟨wr.heap.size, 0, none⟩ = some (.int .i64 x.t) := by rw [hA2.cell]; rfl
            have e1 : (wr.alloc (.cells #[.int .i64 x.t, .string x.s] 73)).cell? ⟨wr.heap.size, 1, none⟩ = some (.string x.s) := by rw [hA2.cell]; rfl
            obtain ⟨k0, k1, k2⟩ := HC.out _ HB2.out
            have hk1024 : (k : Int) ≤ 1024 := by omega
            clear d0 d1 hup hx hnx hbad hu hA2 hbl hk hlt
            by_cases g1 : u ≤ x.t ∧ x.t ≤ t
            · have Q3 := Lib.hid (fun W => within_any x.t u t true (by simp [g1.1, g1.2]) W)
              by_cases g2 : (512 : Int) < (x.s.size : Int)
              · go_wp2_with fail
                refine (Q3.out _).mono ?_
                rintro e w3 ⟨rfl, rfl⟩
                go_wp2_with fail
                go_ret
                have hf := HBAD.out (by omega)
                subst hf
                exact ⟨rfl, HB.out.trans (HB2.out.mono HB.out.size)⟩
              · have HG := Lib.hid (show u ≤ x.t ∧ x.t ≤ t ∧ x.s.size ≤ 512 by omega)
                go_wp2_with fail
                refine (Q3.out _).mono ?_
                rintro e w3 ⟨rfl, rfl⟩
                go_wp2_with fail
                go_roundw
                case rel =>
                  refine ⟨k + 1, by omega, by rw [HNX.out], by go_num, fun j hj hjk => ?_, HB2.out⟩
                  by_cases e : j = k
                  · subst e
                    have h8 := HXX.out
                    have h9 := HUU.out
                    rw [h8, h9]
                    exact HG.out
                  · exact HUP.out j hj (by omega)
                case measure => simp [intOf]; omega
            · have Q3 := Lib.hid (fun W => within_any x.t u t false (by rw [← Bool.not_eq_true, Bool.and_eq_true, decide_eq_true_iff, decide_eq_true_iff]; exact g1) W)
              have hf := HBAD.out (fun h => g1 ⟨h.1, h.2.1⟩)
              subst hf
              clear g1
              go_wp2_with fail
              refine (Q3.out _).mono ?_
              rintro e w3 ⟨rfl, rfl⟩
              go_wp2_with fail
              go_ret
              exact ⟨rfl, HB.out.trans (HB2.out.mono HB.out.size)⟩
          · have hlt' : ¬ (k : Int) < (n : Int) := by omega
            have hall := entsOk_all 1 t es (fun j hj => hup j hj (by omega))
            have hr := HR.out
            rw [hall] at hr
            subst hr
            have HF := Lib.hid (HB.out.trans (hbel.mono HB.out.size))
            clear hup hall
            generalize upT 1 es k = u at *
            go_wp2_with fail
            go_ret
            exact ⟨rfl, HF.out⟩
      · have h3' : (1024 : Int) < (n : Int) := by omega
        rw [decide_eq_false (show ¬ es.length ≤ 1024 by omega), Bool.false_and]
        have Q1 := Lib.hid q1
        have Q2 := Lib.hid q2
        clear q1 q2 h1 h2 HS
        go_enter Try.func14, Try.ntmps14
        go_wp2_with fail
        refine (Q1.out _).mono ?_
        rintro e w1 ⟨rfl, rfl⟩
        go_wp2_with fail
        refine (Q2.out _).mono ?_
        rintro e w2 ⟨rfl, rfl⟩
        go_wp2_with fail
        go_ret
        exact ⟨rfl, HB.out⟩
    · have q2 := fun W => within_any v (-1) 6 false (by rw [← Bool.not_eq_true, Bool.and_eq_true, decide_eq_true_iff, decide_eq_true_iff]; exact h2) W
      rw [decide_eq_false h2, Bool.false_and, Bool.false_and]
      have Q1 := Lib.hid q1
      have Q2 := Lib.hid q2
      clear q1 q2 h1 h2 HS
      go_enter Try.func14, Try.ntmps14
      go_wp2_with fail
      refine (Q1.out _).mono ?_
      rintro e w1 ⟨rfl, rfl⟩
      go_wp2_with fail
      refine (Q2.out _).mono ?_
      rintro e w2 ⟨rfl, rfl⟩
      go_wp2_with fail
      go_ret
      exact ⟨rfl, HB.out⟩
  · have q1 := fun W => within_any t 0 1099511627776 false (by rw [← Bool.not_eq_true, Bool.and_eq_true, decide_eq_true_iff, decide_eq_true_iff]; exact h1) W
    rw [decide_eq_false h1, Bool.false_and, Bool.false_and, Bool.false_and]
    have Q1 := Lib.hid q1
    clear q1 h1 HS
    go_enter Try.func14, Try.ntmps14
    go_wp2_with fail
    refine (Q1.out _).mono ?_
    rintro e w1 ⟨rfl, rfl⟩
    go_wp2_with fail
    go_ret
    exact ⟨rfl, HB.out⟩

theorem rightS_t (s : StP) (h : ¬ (0 ≤ s.t ∧ s.t ≤ 1099511627776)) : rightS s = false := by unfold rightS; rw [decide_eq_false h]; rfl
theorem rightS_v (s : StP) (h : ¬ (-1 ≤ s.v ∧ s.v ≤ 6)) : rightS s = false := by unfold rightS; rw [decide_eq_false h, Bool.and_false]; rfl
theorem rightS_n (s : StP) (h : ¬ s.es.length ≤ 1024) : rightS s = false := by unfold rightS; rw [decide_eq_false h, Bool.and_false]; rfl
theorem rightS_e (s : StP) (h1 : 0 ≤ s.t ∧ s.t ≤ 1099511627776) (h2 : -1 ≤ s.v ∧ s.v ≤ 6) (h3 : s.es.length ≤ 1024) : rightS s = entsOk 1 s.t s.es := by unfold rightS; rw [decide_eq_true h1, decide_eq_true h2, decide_eq_true h3]; rfl

set_option maxRecDepth 100000 in
set_option maxHeartbeats 800000 in
/-- kissinggateref06.Right -/
theorem refRight6_any (s : StP) (A : Option Addr) (n c : Nat) (w : World) (hs : Ents w w.heap.size A s.es) (hl : s.es.length = n) (hn : n ≤ 1099511627776) :
    Calls Try.prog 15 #[.agg #[.int .i64 s.t, .int .i64 s.v, .slice A n c]] w fun e w' => e = .returned (.bool (rightS s)) ∧ Below w.heap.size w w' := by
  have HT := Lib.hid (rightS_t s)
  have HV := Lib.hid (rightS_v s)
  have HN := Lib.hid (rightS_n s)
  have HE := Lib.hid (rightS_e s)
  generalize rightS s = R at *
  obtain ⟨t, v, es⟩ := s
  simp only at hs hl HT HV HN HE ⊢
  have hA := Blk.new w 25 #[.int .i64 t, .int .i64 v, .slice A n c]
  have hb0 := (Below.refl w.heap.size w).alloc (Nat.le_refl _) (.cells #[.int .i64 t, .int .i64 v, .slice A n c] 25)
  have HC := Lib.hid (fun (W : World) (hW : Below (w.alloc (.cells #[.int .i64 t, .int .i64 v, .slice A n c] 25)).heap.size (w.alloc (.cells #[.int .i64 t, .int .i64 v, .slice A n c] 25)) W) =>
    have hk := hA.below hW hA.lt
    (⟨by rw [hk.cell]; rfl, by rw [hk.cell]; rfl, by rw [hk.cell]; rfl⟩ : W.cell? ⟨w.heap.size, 0, none⟩ = some (.int .i64 t) ∧ W.cell? ⟨w.heap.size, 1, none⟩ = some (.int .i64 v) ∧ W.cell? ⟨w.heap.size, 2, none⟩ = some (.slice A n c)))
  obtain ⟨c0, c1, c2⟩ := HC.out _ (Below.refl _ _)
  have HS := Lib.hid (Sees.on hs hb0)
  have HB := Lib.hid hb0
  clear hA hs hb0
  by_cases a1 : t < 0
  · have hr := HT.out (by omega)
    subst hr
    clear HS
    go_enter Try.func15, Try.ntmps15
    go_wp2_with fail
    go_ret
    exact ⟨rfl, HB.out⟩
  by_cases a2 : 1099511627776 < t
  · have hr := HT.out (by omega)
    subst hr
    clear HS
    go_enter Try.func15, Try.ntmps15
    go_wp2_with fail
    go_ret
    exact ⟨rfl, HB.out⟩
  by_cases a3 : v < -1
  · have hr := HV.out (by omega)
    subst hr
    clear HS
    go_enter Try.func15, Try.ntmps15
    go_wp2_with fail
    go_ret
    exact ⟨rfl, HB.out⟩
  by_cases a4 : 6 < v
  · have hr := HV.out (by omega)
    subst hr
    clear HS
    go_enter Try.func15, Try.ntmps15
    go_wp2_with fail
    go_ret
    exact ⟨rfl, HB.out⟩
  by_cases a5 : (1024 : Int) < (n : Int)
  · have hr := HN.out (by omega)
    subst hr
    clear HS
    go_enter Try.func15, Try.ntmps15
    go_wp2_with fail
    go_ret
    exact ⟨rfl, HB.out⟩
  have hR := (HE.out (by omega) (by omega) (by omega)).symm
  have HR := Lib.hid hR
  have h3 : n ≤ 1024 := by omega
  clear hR HT HV HN HE
  go_enter Try.func15, Try.ntmps15
  go_wp2_with fail
  generalize w.alloc (.cells #[.int .i64 t, .int .i64 v, .slice A n c] 25) = w2 at *
  clear c0 c1 c2 a1 a2 a3 a4 a5
  go_loopw [3, 33] (fun lv iv wr => ∃ k : Nat, k ≤ n ∧ lv = .int .i64 (upT 1 es k) ∧ iv = .int .i64 (k : Int) ∧ (∀ (j : Nat) (hj : j < es.length), j < k → upT 1 es j ≤ es[j].t ∧ es[j].t ≤ t ∧ es[j].s.size ≤ 512) ∧ Below w2.heap.size w2 wr) (fun _ iv _ => n - (intOf iv).toNat)
  case atStart => exact ⟨0, Nat.zero_le _, by rw [upT_zero], rfl, (fun j _ h => absurd h (by omega)), Below.refl _ _⟩
  case round =>
    obtain ⟨k, hk, rfl, rfl, hup, hbel⟩ := hrel
    by_cases hlt : k < n
    · have hkl : k < es.length := by omega
      obtain ⟨b, off, rfl, hbl, d0, d1⟩ := Ents.at_ HS.out hkl
      have d0' := (hbel.cell (p := ⟨b, off + k * 2, none⟩) hbl).trans d0
      have d1' := (hbel.cell (p := ⟨b, off + k * 2 + 1, none⟩) hbl).trans d1
      have hlt' : (k : Int) < (n : Int) := by omega
      have hnx := upT_succ 1 es k hkl
      have hbad := entsOk_bad 1 t es k hkl
      rw [HR.out] at hbad
      have HUP := Lib.hid hup
      have HX : ∃ x, es[k] = x := ⟨_, rfl⟩
      obtain ⟨x, hx⟩ := HX
      rw [hx] at d0' d1' hnx hbad
      have HXX := Lib.hid hx
      have HNX := Lib.hid hnx
      have HU : ∃ u, upT 1 es k = u := ⟨_, rfl⟩
      obtain ⟨u, hu⟩ := HU
      rw [hu]
      rw [hu] at hbad
      have HUU := Lib.hid hu
      have HBAD := Lib.hid hbad
      obtain ⟨c0, c1, c2⟩ := HC.out wr hbel
      have hA2 := Blk.new wr 73 #[.int .i64 x.t, .string x.s]
      have HB2 := Lib.hid (hbel.alloc hbel.size (.cells #[.int .i64 x.t, .string x.s] 73))
      have e0 : (wr.alloc (.cells #[.int .i64 x.t, .string x.s] 73)).cell? ⟨wr.heap.size, 0, none⟩ = some (.int .i64 x.t) := by rw [hA2.cell]; rfl
      have e1 : (wr.alloc (.cells #[.int .i64 x.t, .string x.s] 73)).cell? ⟨wr.heap.size, 1, none⟩ = some (.string x.s) := by rw [hA2.cell]; rfl
      obtain ⟨k0, k1, k2⟩ := HC.out _ HB2.out
      have hk1024 : (k : Int) ≤ 1024 := by omega
      clear d0 d1 hup hx hnx hbad hu hA2 hbl hk hlt
      by_cases g1 : x.t < u
      · have hf := HBAD.out (by omega)
        subst hf
        go_wp2_with fail
        go_ret
        exact ⟨rfl, HB.out.trans (HB2.out.mono HB.out.size)⟩
      by_cases g2 : t < x.t
      · have hf := HBAD.out (by omega)
        subst hf
        go_wp2_with fail
        go_ret
        exact ⟨rfl, HB.out.trans (HB2.out.mono HB.out.size)⟩
      by_cases g3 : (512 : Int) < (x.s.size : Int)
      · have hf := HBAD.out (by omega)
        subst hf
        go_wp2_with fail
        go_ret
        exact ⟨rfl, HB.out.trans (HB2.out.mono HB.out.size)⟩
      have HG := Lib.hid (show u ≤ x.t ∧ x.t ≤ t ∧ x.s.size ≤ 512 by omega)
      go_wp2_with fail
      go_roundw
      case rel =>
        refine ⟨k + 1, by omega, by rw [HNX.out], by go_num, fun j hj hjk => ?_, HB2.out⟩
        by_cases e : j = k
        · subst e
          have h8 := HXX.out
          have h9 := HUU.out
          rw [h8, h9]
          exact HG.out
        · exact HUP.out j hj (by omega)
      case measure => simp [intOf]; omega
    · have hlt' : ¬ (k : Int) < (n : Int) := by omega
      have hall := entsOk_all 1 t es (fun j hj => hup j hj (by omega))
      have hr := HR.out
      rw [hall] at hr
      subst hr
      have HF := Lib.hid (HB.out.trans (hbel.mono HB.out.size))
      clear hup hall
      generalize upT 1 es k = u at *
      go_wp2_with fail
      go_ret
      exact ⟨rfl, HF.out⟩

/-- what Same answers -/
def SameRet (w : World) (p : Prop) (e : Ending) (w' : World) : Prop := ∃ r, e = .returned (.bool r) ∧ (p → r = true) ∧ Below w.heap.size w w'

set_option maxRecDepth 100000 in
set_option maxHeartbeats 800000 in
/-- kissinggateref06.Same -/
theorem same6_any (a b : StP) (A A' : Option Addr) (n n' c c' : Nat) (w : World) (hs : Ents w w.heap.size A a.es) (hl : a.es.length = n) (hs' : Ents w w.heap.size A' b.es) (hl' : b.es.length = n') (hn : n ≤ 1099511627776) :
    Calls Try.prog 16 #[.agg #[.int .i64 a.t, .int .i64 a.v, .slice A n c], .agg #[.int .i64 b.t, .int .i64 b.v, .slice A' n' c']] w (SameRet w (a = b)) := by
  obtain ⟨t, v, es⟩ := a
  obtain ⟨t', v', es'⟩ := b
  simp only at hs hl hs' hl' ⊢
  have hA := Blk.new w 25 #[.int .i64 t, .int .i64 v, .slice A n c]
  have hb0 := (Below.refl w.heap.size w).alloc (Nat.le_refl _) (.cells #[.int .i64 t, .int .i64 v, .slice A n c] 25)
  have hA' := Blk.new (w.alloc (.cells #[.int .i64 t, .int .i64 v, .slice A n c] 25)) 25 #[.int .i64 t', .int .i64 v', .slice A' n' c']
  have hb1 := hb0.alloc hb0.size (.cells #[.int .i64 t', .int .i64 v', .slice A' n' c'] 25)
  have hA2 := hA.alloc (.cells #[.int .i64 t', .int .i64 v', .slice A' n' c'] 25)
  have hsz : (w.alloc (.cells #[.int .i64 t, .int .i64 v, .slice A n c] 25)).heap.size = w.heap.size + 1 := by simp
  rw [hsz] at hA'
  have HC := Lib.hid (fun (W : World) (hW : Below ((w.alloc (.cells #[.int .i64 t, .int .i64 v, .slice A n c] 25)).alloc (.cells #[.int .i64 t', .int .i64 v', .slice A' n' c'] 25)).heap.size ((w.alloc (.cells #[.int .i64 t, .int .i64 v, .slice A n c] 25)).alloc (.cells #[.int .i64 t', .int .i64 v', .slice A' n' c'] 25)) W) =>
    have hk := hA2.below hW hA2.lt
    have hk' := hA'.below hW hA'.lt
    (⟨by rw [hk.cell]; rfl, by rw [hk.cell]; rfl, by rw [hk.cell]; rfl, by rw [hk'.cell]; rfl, by rw [hk'.cell]; rfl, by rw [hk'.cell]; rfl⟩ : W.cell? ⟨w.heap.size, 0, none⟩ = some (.int .i64 t) ∧ W.cell? ⟨w.heap.size, 1, none⟩ = some (.int .i64 v) ∧ W.cell? ⟨w.heap.size, 2, none⟩ = some (.slice A n c) ∧ W.cell? ⟨w.heap.size + 1, 0, none⟩ = some (.int .i64 t') ∧ W.cell? ⟨w.heap.size + 1, 1, none⟩ = some (.int .i64 v') ∧ W.cell? ⟨w.heap.size + 1, 2, none⟩ = some (.slice A' n' c')))
  obtain ⟨c0, c1, c2, c3, c4, c5⟩ := HC.out _ (Below.refl _ _)
  have HS := Lib.hid (Sees.on hs hb1)
  have HS' := Lib.hid (Sees.on hs' hb1)
  have HB := Lib.hid hb1
  clear hA hA' hA2 hs hs' hb0 hb1 hsz
  by_cases a1 : t = t'
  · by_cases a2 : v = v'
    · by_cases a3 : n = n'
      · subst a1
        subst a2
        subst a3
        go_enter Try.func16, Try.ntmps16
        go_wp2_with fail
        generalize (w.alloc (.cells #[.int .i64 t, .int .i64 v, .slice A n c] 25)).alloc (.cells #[.int .i64 t, .int .i64 v, .slice A' n c'] 25) = w2 at *
        clear c0 c1 c2 c3 c4 c5
        go_loopw [30] (fun iv wr => ∃ k : Nat, k ≤ n ∧ iv = .int .i64 (k : Int) ∧ Below w2.heap.size w2 wr) (fun iv _ => n - (intOf iv).toNat)
        case atStart => exact ⟨0, Nat.zero_le _, rfl, Below.refl _ _⟩
        case round =>
          obtain ⟨k, hk, rfl, hbel⟩ := hrel
          obtain ⟨c0, c1, c2, c3, c4, c5⟩ := HC.out wr hbel
          by_cases hlt : k < n
          · have hkl : k < es.length := by omega
            have hkl' : k < es'.length := by omega
            obtain ⟨b1, off1, rfl, hbl1, d0, d1⟩ := Ents.at_ HS.out hkl
            obtain ⟨b2, off2, rfl, hbl2, f0, f1⟩ := Ents.at_ HS'.out hkl'
            have d0' := (hbel.cell (p := ⟨b1, off1 + k * 2, none⟩) hbl1).trans d0
            have d1' := (hbel.cell (p := ⟨b1, off1 + k * 2 + 1, none⟩) hbl1).trans d1
            have f0' := (hbel.cell (p := ⟨b2, off2 + k * 2, none⟩) hbl2).trans f0
            have f1' := (hbel.cell (p := ⟨b2, off2 + k * 2 + 1, none⟩) hbl2).trans f1
            have hlt' : (k : Int) < (n : Int) := by omega
            have hkn : (k : Int) ≤ 1099511627776 := by omega
            have HEQ := Lib.hid (show es = es' → es[k] = es'[k] from fun h => by subst h; rfl)
            have HBEL := Lib.hid hbel
            clear d0 d1 f0 f1 hbl1 hbl2 hbel
            generalize es[k] = x at *
            generalize es'[k] = y at *
            go_upto_region 6 with (fail)
            by_cases hxt : x.t = y.t
            · by_cases hxs : x.s = y.s
              · have hq1 : (y.t != y.t) = false := by simp
                rw [hxt] at d0'
                rw [hxs] at d1'
                go_big_quiet (fail)
                go_wp2_with fail
                go_roundw
                case rel => exact ⟨k + 1, by omega, by go_num, below_drewN HBEL.out nq⟩
                case measure => simp [intOf]; omega
              · have HNX := Lib.hid (show es ≠ es' from fun h => hxs (by rw [HEQ.out h]))
                have hq1 : (y.t != y.t) = false := by simp
                have hq2 : x.s.data.toList ≠ y.s.data.toList := fun h => hxs (by apply ByteArray.ext; exact Array.toList_inj.1 h)
                have hq3 : (x.s.data.toList == y.s.data.toList) = false := by rw [beq_eq_false_iff_ne]; exact hq2
                have hq4 : (x.s.toList == y.s.toList) = false := by rw [beq_eq_false_iff_ne, ByteArray.toList_eq, ByteArray.toList_eq]; exact hq2
                have hq5 : x.s.data ≠ y.s.data := fun h => hq2 (by rw [h])
                have hq6 : (x.s.data == y.s.data) = false := by rw [beq_eq_false_iff_ne]; exact hq5
                rw [hxt] at d0'
                go_big_quiet (fail)
                go_wp2_with fail
                go_ret
                exact ⟨false, rfl, fun h => absurd (by injection h) HNX.out, HB.out.trans ((below_drewN HBEL.out nq).mono HB.out.size)⟩
            · have HNX := Lib.hid (show es ≠ es' from fun h => hxt (by rw [HEQ.out h]))
              have hq1 : (x.t == y.t) = false := by rw [beq_eq_false_iff_ne]; exact hxt
              go_big_quiet (fail)
              go_wp2_with fail
              go_ret
              exact ⟨false, rfl, fun h => absurd (by injection h) HNX.out, HB.out.trans ((below_drewN HBEL.out nq).mono HB.out.size)⟩
          · have hlt' : ¬ (k : Int) < (n : Int) := by omega
            have HF := Lib.hid (HB.out.trans (hbel.mono HB.out.size))
            go_wp2_with fail
            go_ret
            exact ⟨true, rfl, fun _ => rfl, HF.out⟩
      · have q3 : ((n : Int) != (n' : Int)) = true := by simp; omega
        have HNE := Lib.hid (show (⟨t, v, es⟩ : StP) ≠ ⟨t', v', es'⟩ from fun h => by injection h with _ _ h; subst h; omega)
        subst a1
        subst a2
        clear HS HS'
        go_enter Try.func16, Try.ntmps16
        go_wp2_with fail
        go_ret
        exact ⟨false, rfl, fun h => absurd h HNE.out, HB.out⟩
    · have q2 : (v != v') = true := by simpa using a2
      subst a1
      clear HS HS'
      go_enter Try.func16, Try.ntmps16
      go_wp2_with fail
      go_ret
      exact ⟨false, rfl, fun h => absurd (by injection h) a2, HB.out⟩
  · have q1 : (t != t') = true := by simpa using a1
    clear HS HS'
    go_enter Try.func16, Try.ntmps16
    go_wp2_with fail
    go_ret
    exact ⟨false, rfl, fun h => absurd (by injection h) a1, HB.out⟩
end Go.Proofs.Ytlggkeoihpcdiaa

/- The walks of package word's Reader, the rest; and of the document's own Reader. -/
namespace Go.Proofs.Ytlggkeoihpcdiaa
open Go.RowKit

theorem one_byte (p : List UInt8) (h : p.length = 1) : ∃ x, p = [x] := by
  match p, h with
  | [x], _ => exact ⟨x, rfl⟩

/-- whether it is done -/
def RS.done (s : RS) : Bool := !s.bad && s.l.isEmpty

set_option maxRecDepth 100000 in
set_option maxHeartbeats 400000 in
/-- Reader.Done -/
theorem rDone_any (g : Nat) (s : RS) (w : World) (h : Rdr w g s) :
    Calls Try.prog 94 #[.pointer (some ⟨g, 0, none⟩)] w fun e w' => e = .returned (.bool s.done) ∧ w' = w := by
  have HF := Lib.hid (fun W => rFail_any g s W)
  have HR := Lib.hid h
  obtain ⟨A, c, hb, _, _, _, hl, _⟩ := h
  have c0 : w.cell? ⟨g, 0, none⟩ = some (.slice A s.l.length c) := by rw [hb.cell]; rfl
  clear hb
  obtain ⟨l, bad⟩ := s
  simp only at hl c0 HF HR ⊢
  cases bad
  · clear hl
    by_cases hz : l = []
    · subst hz
      go_enter Try.func94, Try.ntmps94
      go_wp2_with (go_at_call 113; refine (HF.out _ HR.out).mono ?_; rintro e w' ⟨rfl, rfl⟩)
      go_ret
      exact ⟨rfl, rfl⟩
    · have hlen : 0 < l.length := List.length_pos_iff.2 hz
      have hd : (RS.mk l false).done = false := by simp [RS.done, hz]
      rw [hd]
      have hne : ((l.length : Int) == 0) = false := by rw [beq_eq_false_iff_ne]; omega
      clear hd hz
      go_enter Try.func94, Try.ntmps94
      go_wp2_with (go_at_call 113; refine (HF.out _ HR.out).mono ?_; rintro e w' ⟨rfl, rfl⟩)
      go_ret
      exact ⟨rfl, rfl⟩
  · have hl0 := hl rfl
    subst hl0
    clear hl
    go_enter Try.func94, Try.ntmps94
    go_wp2_with (go_at_call 113; refine (HF.out _ HR.out).mono ?_; rintro e w' ⟨rfl, rfl⟩)
    go_ret
    exact ⟨rfl, rfl⟩

set_option maxRecDepth 100000 in
/-- Reader.take of nil -/
theorem take_nil (n : Int) (w : World) :
    Calls Try.prog 110 #[.pointer none, .int .i64 n] w fun e w' => e = .returned (.tuple #[.slice none 0 0, .bool false]) ∧ w' = w := by
  go_enter Try.func110, Try.ntmps110
  go_wp2_with (go_at_call 113; refine (rFail_nil _).mono ?_; rintro e w' ⟨rfl, rfl⟩)
  go_ret2
  exact ⟨rfl, rfl⟩
set_option maxRecDepth 100000 in
/-- Reader.Int of nil -/
theorem rInt_nil (least most : Int) (w : World) :
    Calls Try.prog 93 #[.pointer none, .int .i64 least, .int .i64 most] w fun e w' => e = .returned (.int .i64 0) ∧ w' = w := by
  go_enter Try.func93, Try.ntmps93
  go_wp2_with (go_at_call 110; refine (take_nil _ _).mono ?_; rintro e w' ⟨rfl, rfl⟩)
  go_ret
  exact ⟨rfl, rfl⟩

theorem row_own {w : World} {base n c : Nat} {A : Option Addr} {xs : List Value} (h : w.ownsRow base 5 1 (.slice A n c) n xs) {o : Obj} : RowOf (w.alloc o) A n := by
  intro hn a ha
  rcases h.2 with ⟨_, h0⟩ | ⟨g, cap, cur, hv, _, hg, _⟩
  · omega
  · have hA : A = some ⟨g, 0, none⟩ := by injection hv
    rw [hA] at ha
    injection ha with ha
    subst ha
    exact ⟨cur, _, (Below.heap_alloc w o g (Array.getElem?_eq_some_iff.1 hg).1).trans hg⟩

/-- what Read answers: a reader of its own -/
def Began (w : World) (l : List UInt8) (e : Ending) (w' : World) : Prop :=
  ∃ g, e = .returned (.pointer (some ⟨g, 0, none⟩)) ∧ Rdr w' g ⟨l, false⟩ ∧ Below w.heap.size w w' ∧ w.heap.size ≤ g

set_option maxRecDepth 100000 in
set_option maxHeartbeats 400000 in
/-- word.Read -/
theorem read_any (A : Option Addr) (n c : Nat) (l : List UInt8) (w : World) (hs : Sees w w.heap.size A n (cbs l)) (hn : n ≤ 140737488355328) :
    Calls Try.prog 66 #[.slice A n c] w (Began w l) := by
  have HC := Lib.hid (clone_any A n c l w hs hn)
  have hl : l.length = n := by have := hs.1; simpa using this
  have HL := Lib.hid hl
  clear hs hn hl
  go_enter Try.func66, Try.ntmps66
  go_wp2_with fail
  refine HC.out.mono ?_
  rintro e w1 ⟨v, rfl, hown, hb⟩
  obtain ⟨A1, c1, rfl, h1, h2⟩ := own_form hown
  have HO := Lib.hid hown
  clear hown
  go_wp2_with fail
  go_ret
  have hl := HL.out
  subst hl
  exact ⟨w1.heap.size, rfl, ⟨A1, c1, Blk.new w1 _ _, (Sees.of_own HO.out).alloc (Nat.le_refl _) _, h1, h2, fun h => (by cases h), row_own HO.out⟩, hb.alloc hb.size _, hb.size⟩
end Go.Proofs.Ytlggkeoihpcdiaa

/- The walks of the document's own Reader (kissinggateref01). -/
namespace Go.Proofs.Ytlggkeoihpcdiaa
open Go.RowKit

theorem cut_front (t : ByteArray) (n : Nat) : t.extract 0 n = ⟨(t.data.toList.take n).toArray⟩ := by
  apply ByteArray.ext
  rw [ByteArray.data_extract]
  apply Array.toList_inj.1
  rw [Array.toList_extract]
  simp [List.extract]
theorem cut_back (t : ByteArray) (n : Nat) : t.extract n t.size = ⟨(t.data.toList.drop n).toArray⟩ := by
  apply ByteArray.ext
  rw [ByteArray.data_extract]
  apply Array.toList_inj.1
  rw [Array.toList_extract]
  simp only [List.extract]
  rw [List.take_of_length_le]
  rw [List.length_drop, text_len]
  exact Nat.le_refl _

/-- the document's reader that lies in block g -/
def Prd (w : World) (g : Nat) (s : RS) : Prop :=
  ∃ t : ByteArray, Blk w g 93 #[.string t, .bool s.bad] ∧ t.data.toList = s.l ∧ (s.bad = true → s.l = []) ∧ s.l.length ≤ 9223372036854775807
theorem Prd.keep {w w' : World} {g : Nat} {s : RS} (h : Prd w g s) (hk : w'.heap[g]? = w.heap[g]?) : Prd w' g s := by
  obtain ⟨t, h1, h2⟩ := h
  exact ⟨t, hk.trans h1, h2⟩

theorem Prd.drewN {w : World} {g : Nat} {s : RS} (h : Prd w g s) (n : Nat) : Prd (w.drewN n) g s := h
theorem Prd.lt {w : World} {g : Nat} {s : RS} (h : Prd w g s) : g < w.heap.size := by
  obtain ⟨t, h1, _⟩ := h
  exact h1.lt
/-- the document's reader is left alone where another block turns -/
theorem Prd.gb {w w' : World} {g g' : Nat} {s : RS} (h : Prd w g' s) (hg : w.grownBy w' (some g)) (hne : g' ≠ g) : Prd w' g' s :=
  h.keep (hg.block g' h.lt (fun e => by injection e with e; omega))
/-- the program's reader is left alone where the document's turns -/
theorem Rdr.gb {w w' : World} {g g' : Nat} {s s' : RS} (h : Rdr w g s) (hp : Prd w g' s') (hg : w.grownBy w' (some g')) (hne : g' ≠ g) : Rdr w' g s := by
  obtain ⟨A, c, h1, h2, h3, h4, h5, h6⟩ := h
  obtain ⟨t, hp1, _⟩ := hp
  have hgl := h1.lt
  have hbk : ∀ b off, A = some ⟨b, off, none⟩ → 0 < s.l.length → b < g → w'.heap[b]? = w.heap[b]? := by
    intro b off hA hn hb
    obtain ⟨cs, fr, hcs⟩ := h6 hn _ hA
    refine hg.block b (by omega) (fun e => ?_)
    injection e with e
    subst e
    unfold Blk at hp1
    simp only at hcs
    rw [hp1] at hcs
    simp at hcs
  refine ⟨A, c, (hg.block g hgl (fun e => by injection e with e; omega)).trans h1, ⟨h2.1, fun hn => ?_⟩, h3, h4, h5, fun hn a ha => ?_⟩
  · obtain ⟨b, off, hA, hb, hc⟩ := h2.2 hn
    exact ⟨b, off, hA, hb, fun j u hu => (World.cell?_of_block (hbk b off hA hn hb)).trans (hc j u hu)⟩
  · obtain ⟨b, off, hA, hb, _⟩ := h2.2 hn
    obtain ⟨cs, fr, hcs⟩ := h6 hn a ha
    rw [hA] at ha
    injection ha with ha
    subst ha
    exact ⟨cs, fr, (hbk b off hA hn hb).trans hcs⟩

def PTook (g n : Nat) (s : RS) (w : World) (e : Ending) (w' : World) : Prop :=
  e = .returned (.string ⟨(s.l.take n).toArray⟩) ∧ Prd w' g (s.behind n) ∧ w.grownBy w' (some g)

set_option maxRecDepth 100000 in
set_option maxHeartbeats 400000 in
/-- part, where so many bytes are left -/
theorem part_yes (g n : Nat) (s : RS) (w : World) (h : Prd w g s) (hb : s.bad = false) (hn : n ≤ s.l.length) :
    Calls Try.prog 68 #[.pointer (some ⟨g, 0, none⟩), .int .i64 (n : Int)] w (PTook g n s w) := by
  obtain ⟨t, hblk, ht, _, hm⟩ := h
  obtain ⟨l, bad⟩ := s
  simp only at hb hn hblk ht hm
  subst hb
  subst ht
  rw [text_len] at hn hm
  have c0 : w.cell? ⟨g, 0, none⟩ = some (.string t) := by rw [hblk.cell]; rfl
  have c1 : w.cell? ⟨g, 1, none⟩ = some (.bool false) := by rw [hblk.cell]; rfl
  have f0 := hblk.frozen 0
  have HB := Lib.hid hblk
  clear hblk
  have hnot : ¬ (t.size : Int) < (n : Int) := by omega
  go_enter Try.func68, Try.ntmps68
  go_wp2_with fail
  go_ret
  have hset := HB.out.set_ 0 (.string (t.extract n t.size))
  refine ⟨by rw [← cut_front]; rfl, ?_, gb_set (gb_refl _ _) _ _⟩
  have e : (RS.mk t.data.toList false).behind n = ⟨t.data.toList.drop n, false⟩ := by simp [RS.behind, hn]
  rw [e]
  refine ⟨t.extract n t.size, hset, by rw [cut_back], by simp, ?_⟩
  simp only [List.length_drop, text_len]
  omega

set_option maxRecDepth 100000 in
set_option maxHeartbeats 400000 in
/-- part, where it failed, or so many bytes aren't left -/
theorem part_no (g n : Nat) (s : RS) (w : World) (h : Prd w g s) (hn : ¬ (s.bad = false ∧ n ≤ s.l.length)) :
    Calls Try.prog 68 #[.pointer (some ⟨g, 0, none⟩), .int .i64 (n : Int)] w fun e w' => e = .returned (.string ⟨#[]⟩) ∧ Prd w' g RS.failed ∧ w.grownBy w' (some g) := by
  obtain ⟨t, hblk, ht, hbl, hm⟩ := h
  obtain ⟨l, bad⟩ := s
  simp only at hn hblk ht hbl hm
  subst ht
  rw [text_len] at hn hm
  have c0 : w.cell? ⟨g, 0, none⟩ = some (.string t) := by rw [hblk.cell]; rfl
  have c1 : w.cell? ⟨g, 1, none⟩ = some (.bool bad) := by rw [hblk.cell]; rfl
  have f0 := hblk.frozen 0
  have f1 := hblk.frozen 1
  have HB := Lib.hid hblk
  clear hblk hbl
  cases bad
  · have hlt : (t.size : Int) < (n : Int) := by simp at hn; omega
    clear hn
    go_enter Try.func68, Try.ntmps68
    go_wp2_with fail
    go_ret
    exact ⟨rfl, ⟨⟨#[]⟩, (HB.out.set_ 1 (.bool true)).set_ 0 (.string ⟨#[]⟩), rfl, fun _ => rfl, by simp [RS.failed]⟩, gb_set (gb_set (gb_refl _ _) _ _) _ _⟩
  · clear hn
    go_enter Try.func68, Try.ntmps68
    go_wp2_with fail
    go_ret
    exact ⟨rfl, ⟨⟨#[]⟩, (HB.out.set_ 1 (.bool true)).set_ 0 (.string ⟨#[]⟩), rfl, fun _ => rfl, by simp [RS.failed]⟩, gb_set (gb_set (gb_refl _ _) _ _) _ _⟩

theorem behind_yes (s : RS) (n : Nat) (h : s.bad = false ∧ n ≤ s.l.length) : s.behind n = ⟨s.l.drop n, false⟩ := if_pos h
/-- the failing stores -/
theorem prd_fail {w : World} {g : Nat} {v0 v1 : Value} (h : Blk w g 93 #[v0, v1]) :
    Prd ((w.setCell ⟨g, 1, none⟩ (.bool true)).setCell ⟨g, 0, none⟩ (.string ⟨#[]⟩)) g RS.failed ∧ w.grownBy ((w.setCell ⟨g, 1, none⟩ (.bool true)).setCell ⟨g, 0, none⟩ (.string ⟨#[]⟩)) (some g) :=
  ⟨⟨⟨#[]⟩, (h.set_ 1 (.bool true)).set_ 0 (.string ⟨#[]⟩), rfl, fun _ => rfl, by simp [RS.failed]⟩, gb_set (gb_set (gb_refl _ _) _ _) _ _⟩
theorem mul_add_cell (a : Nat) (x : UInt8) (h : a * 256 + 255 < 18446744073709551616) :
    IntKind.u64.wrap (IntKind.u64.wrap ((a : Int) * 256) + IntKind.u64.wrap (x.toNat : Int)) = ((a * 256 + x.toNat : Nat) : Int) := by
  have hx : x.toNat < 256 := UInt8.toNat_lt x
  have h1 : IntKind.u64.wrap ((a : Int) * 256) = ((a * 256 : Nat) : Int) := by
    rw [IntWalk.u64_in _ (by omega), Int.natCast_mul]
    rfl
  have h2 : IntKind.u64.wrap (x.toNat : Int) = (x.toNat : Int) := IntWalk.u64_in _ (by omega)
  rw [h1, h2, ← Int.natCast_add]
  exact IntWalk.u64_in _ ⟨by omega, by omega⟩

set_option maxRecDepth 100000 in
set_option maxHeartbeats 800000 in
/-- kissinggateref01.Reader.Int -/
theorem pInt_any (g : Nat) (s : RS) (least most : Int) (w : World) (h : Prd w g s) :
    Calls Try.prog 42 #[.pointer (some ⟨g, 0, none⟩), .int .i64 least, .int .i64 most] w fun e w' => e = .returned (.int .i64 (s.int least most).1) ∧ Prd w' g (s.int least most).2 ∧ w.grownBy w' (some g) := by
  by_cases hn : s.bad = false ∧ 8 ≤ s.l.length
  · have ht := num_take_ret s 8 hn
    have hy := part_yes g 8 s w h hn.1 hn.2
    unfold PTook at hy
    have h8 : (s.l.take 8).length = 8 := by rw [List.length_take]; omega
    unfold RS.int
    rw [ht, behind_yes s 8 hn]
    rw [behind_yes s 8 hn] at hy
    simp only
    generalize hp : s.l.take 8 = q at *
    generalize s.l.drop 8 = l' at *
    have HY := Lib.hid hy
    clear hy ht hp h hn
    have hps : (⟨q.toArray⟩ : ByteArray).size = 8 := by rw [← text_len]; exact h8
    have hpl : (⟨q.toArray⟩ : ByteArray).data.toList = q := rfl
    generalize hpe : (⟨q.toArray⟩ : ByteArray) = p at *
    clear hpe
    subst hpl
    generalize hres : (if wrap64 (num p.data.toList) < least ∨ most < wrap64 (num p.data.toList) then ((0 : Int), RS.failed) else (wrap64 (num p.data.toList), (⟨l', false⟩ : RS))) = res
    have HRES := Lib.hid hres
    clear hres h8
    have HP := Lib.hid hps
    go_enter Try.func42, Try.ntmps42
    go_wp2_with fail
    refine HY.out.mono ?_
    rintro e w1 ⟨rfl, hr1, hg1⟩
    obtain ⟨t, hblk, _⟩ := id hr1
    have c0 : w1.cell? ⟨g, 0, none⟩ = some (.string t) := by rw [hblk.cell]; rfl
    have c1 : w1.cell? ⟨g, 1, none⟩ = some (.bool false) := by rw [hblk.cell]; rfl
    have f0 := hblk.frozen 0
    have f1 := hblk.frozen 1
    have HB := Lib.hid hblk
    clear hblk
    go_wp2_with fail
    go_loop [8, 9] (fun u i => ∃ k : Nat, k ≤ 8 ∧ i = .int .i64 k ∧ u = .int .u64 (num (p.data.toList.take k) : Int)) (fun _ i => 8 - (intOf i).toNat)
    case atStart => exact ⟨0, Nat.zero_le _, rfl, rfl⟩
    case round =>
      obtain ⟨k, hk, rfl, rfl⟩ := hrel
      by_cases hlt : k < 8
      · have hks : k < p.size := by omega
        have hkl : k < p.data.toList.length := by rw [text_len]; exact hks
        have HN := Lib.hid (num_take_succ p.data.toList k hkl)
        have hget : p.data.toList[k] = p[k] := rfl
        have HG := Lib.hid hget
        clear hget
        go_wp2_with fail
        go_round
        case rel => exact ⟨k + 1, by omega, by go_num, by rw [HN.out, HG.out, mul_add_cell _ _ (num_take_bd _ k (by omega))]⟩
        case measure => simp [intOf]; omega
      · have hk' : p.data.toList.take k = p.data.toList := List.take_of_length_le (by rw [text_len]; omega)
        rw [hk']
        clear hk' hps
        generalize num p.data.toList = v at *
        by_cases hlo : wrap64 v < least ∨ most < wrap64 v
        · go_wp2_with fail
          all_goals
            go_ret
            have hr := HRES.out
            rw [if_pos hlo] at hr
            subst hr
            have hf := prd_fail HB.out
            exact ⟨rfl, hf.1, gb_trans hg1 hf.2⟩
        · have h1 : ¬ wrap64 v < least := fun h => hlo (.inl h)
          have h2 : ¬ most < wrap64 v := fun h => hlo (.inr h)
          have HL := Lib.hid hlo
          clear hlo
          go_wp2_with fail
          go_ret
          have hr := HRES.out
          rw [if_neg HL.out] at hr
          subst hr
          exact ⟨rfl, hr1, hg1⟩
  · have ht := num_take_none s 8 hn
    have hy := part_no g 8 s w h hn
    unfold RS.int
    rw [ht]
    simp only
    have HY := Lib.hid hy
    clear hy ht h hn
    go_enter Try.func42, Try.ntmps42
    go_wp2_with fail
    refine HY.out.mono ?_
    rintro e w1 ⟨rfl, hr1, hg1⟩
    obtain ⟨t, hblk, _⟩ := id hr1
    have c1 : w1.cell? ⟨g, 1, none⟩ = some (.bool true) := by rw [hblk.cell]; rfl
    clear hblk
    go_wp2_with fail
    go_ret
    exact ⟨rfl, hr1, hg1⟩

theorem two_bytes (p : List UInt8) (h : p.length = 2) : ∃ x y, p = [x, y] := by
  match p, h with
  | [x, y], _ => exact ⟨x, y, rfl⟩

set_option maxRecDepth 100000 in
set_option maxHeartbeats 800000 in
/-- kissinggateref01.Reader.Text -/
theorem pText_any (g : Nat) (s : RS) (most : Int) (w : World) (h : Prd w g s) :
    Calls Try.prog 43 #[.pointer (some ⟨g, 0, none⟩), .int .i64 most] w fun e w' => e = .returned (.string ⟨(s.text most).1.toArray⟩) ∧ Prd w' g (s.text most).2 ∧ w.grownBy w' (some g) := by
  by_cases hn : s.bad = false ∧ 2 ≤ s.l.length
  · have ht := num_take_ret s 2 hn
    have hy := part_yes g 2 s w h hn.1 hn.2
    unfold PTook at hy
    have h2 : (s.l.take 2).length = 2 := by rw [List.length_take]; omega
    unfold RS.text
    rw [ht, behind_yes s 2 hn]
    rw [behind_yes s 2 hn] at hy
    simp only
    generalize hp : s.l.take 2 = q at *
    generalize s.l.drop 2 = l' at *
    obtain ⟨x, y, rfl⟩ := two_bytes q h2
    have hx := UInt8.toNat_lt x
    have hy' := UInt8.toNat_lt y
    have hnum : num [x, y] = x.toNat * 256 + y.toNat := by simp [num]
    have HY := Lib.hid hy
    clear hy ht hp h hn h2
    have hps : (⟨[x, y].toArray⟩ : ByteArray).size = 2 := rfl
    have hp0 : ∀ hh, (⟨[x, y].toArray⟩ : ByteArray)[0]'hh = x := fun _ => rfl
    have hp1 : ∀ hh, (⟨[x, y].toArray⟩ : ByteArray)[1]'hh = y := fun _ => rfl
    generalize (⟨[x, y].toArray⟩ : ByteArray) = p at *
    have hlt0 : 0 < p.size := by omega
    have hlt1 : 1 < p.size := by omega
    have HX0 := Lib.hid (hp0 hlt0)
    have HX1 := Lib.hid (hp1 hlt1)
    clear hp0 hp1
    have HP := Lib.hid hps
    clear hps
    have hv1 : ((num [x, y] : Nat) : Int) = (x.toNat : Int) * 256 + (y.toNat : Int) := by rw [hnum]; omega
    have HV := Lib.hid hv1
    have hvb : num [x, y] < 65536 := by rw [hnum]; omega
    clear hv1 hnum
    by_cases hlo : most < (num [x, y] : Int)
    · rw [if_pos hlo]
      rw [HV.out] at hlo
      go_enter Try.func43, Try.ntmps43
      go_wp2_with fail
      refine HY.out.mono ?_
      rintro e w1 ⟨rfl, hr1, hg1⟩
      obtain ⟨t, hblk, _⟩ := id hr1
      have c0 : w1.cell? ⟨g, 0, none⟩ = some (.string t) := by rw [hblk.cell]; rfl
      have c1 : w1.cell? ⟨g, 1, none⟩ = some (.bool false) := by rw [hblk.cell]; rfl
      have f0 := hblk.frozen 0
      have f1 := hblk.frozen 1
      have HB := Lib.hid hblk
      clear hblk
      have hx0 := HX0.out
      have hx1 := HX1.out
      go_wp2_with fail
      go_quiet (fail)
      go_wp2_with fail
      go_ret
      have hf := prd_fail (HB.out.drewN nq)
      exact ⟨rfl, hf.1, gb_trans (gb_drewN hg1 nq) hf.2⟩
    · rw [if_neg hlo]
      rw [HV.out] at hlo
      by_cases hm : (RS.mk l' false).bad = false ∧ num [x, y] ≤ (RS.mk l' false).l.length
      · rw [num_take_ret (RS.mk l' false) _ hm]
        simp only
        have hy2 := fun W hr => part_yes g (num [x, y]) (RS.mk l' false) W hr hm.1 hm.2
        unfold PTook at hy2
        generalize (RS.mk l' false).l.take (num [x, y]) = q at *
        generalize (RS.mk l' false).behind (num [x, y]) = s2 at *
        have HY2 := Lib.hid hy2
        clear hy2 hm
        go_enter Try.func43, Try.ntmps43
        go_wp2_with fail
        refine HY.out.mono ?_
        rintro e w1 ⟨rfl, hr1, hg1⟩
        obtain ⟨t, hblk, _⟩ := id hr1
        have c1 : w1.cell? ⟨g, 1, none⟩ = some (.bool false) := by rw [hblk.cell]; rfl
        clear hblk
        have hx0 := HX0.out
        have hx1 := HX1.out
        go_wp2_with fail
        go_quiet (fail)
        go_wp2_with fail
        rw [← HV.out]
        refine (HY2.out _ (hr1.keep (w' := w1.drewN nq) rfl)).mono ?_
        rintro e w3 ⟨rfl, hr3, hg3⟩
        go_wp2_with fail
        go_ret
        exact ⟨rfl, hr3, gb_trans (gb_drewN hg1 nq) hg3⟩
      · rw [num_take_none (RS.mk l' false) _ hm]
        simp only
        have HY2 := Lib.hid (fun W hr => part_no g (num [x, y]) (RS.mk l' false) W hr hm)
        clear hm
        go_enter Try.func43, Try.ntmps43
        go_wp2_with fail
        refine HY.out.mono ?_
        rintro e w1 ⟨rfl, hr1, hg1⟩
        obtain ⟨t, hblk, _⟩ := id hr1
        have c1 : w1.cell? ⟨g, 1, none⟩ = some (.bool false) := by rw [hblk.cell]; rfl
        clear hblk
        have hx0 := HX0.out
        have hx1 := HX1.out
        go_wp2_with fail
        go_quiet (fail)
        go_wp2_with fail
        rw [← HV.out]
        refine (HY2.out _ (hr1.keep (w' := w1.drewN nq) rfl)).mono ?_
        rintro e w3 ⟨rfl, hr3, hg3⟩
        go_wp2_with fail
        go_ret
        exact ⟨rfl, hr3, gb_trans (gb_drewN hg1 nq) hg3⟩
  · have ht := num_take_none s 2 hn
    have hy := part_no g 2 s w h hn
    unfold RS.text
    rw [ht]
    simp only
    have HY := Lib.hid hy
    clear hy ht h hn
    go_enter Try.func43, Try.ntmps43
    go_wp2_with fail
    refine HY.out.mono ?_
    rintro e w1 ⟨rfl, hr1, hg1⟩
    obtain ⟨t, hblk, _⟩ := id hr1
    have c1 : w1.cell? ⟨g, 1, none⟩ = some (.bool true) := by rw [hblk.cell]; rfl
    clear hblk
    go_wp2_with fail
    go_ret
    exact ⟨rfl, hr1, hg1⟩

end Go.Proofs.Ytlggkeoihpcdiaa

/- The walks of package hard's playHard, playEntry and play: what a record does to a state. -/
namespace Go.Proofs.Ytlggkeoihpcdiaa
open Go.RowKit

/-- a reader is left alone where a block of another type turns -/
theorem Rdr.far {w w' : World} {g g' : Nat} {s : RS} {T : TypeId} {cs : Array Value} (h : Rdr w g s) (hp : Blk w g' T cs) (hT : T ≠ 5) (hg : w.grownBy w' (some g')) (hne : g' ≠ g) : Rdr w' g s := by
  obtain ⟨A, c, h1, h2, h3, h4, h5, h6⟩ := h
  have hgl := h1.lt
  have hbk : ∀ b off, A = some ⟨b, off, none⟩ → 0 < s.l.length → b < g → w'.heap[b]? = w.heap[b]? := by
    intro b off hA hn hb
    obtain ⟨cs', fr, hcs⟩ := h6 hn _ hA
    refine hg.block b (by omega) (fun e => ?_)
    injection e with e
    subst e
    unfold Blk at hp
    simp only at hcs
    rw [hp] at hcs
    injection hcs with hcs
    injection hcs with _ ht
    exact hT ht
  refine ⟨A, c, (hg.block g hgl (fun e => by injection e with e; omega)).trans h1, ⟨h2.1, fun hn => ?_⟩, h3, h4, h5, fun hn a ha => ?_⟩
  · obtain ⟨b, off, hA, hb, hc⟩ := h2.2 hn
    exact ⟨b, off, hA, hb, fun j u hu => (World.cell?_of_block (hbk b off hA hn hb)).trans (hc j u hu)⟩
  · obtain ⟨b, off, hA, hb, _⟩ := h2.2 hn
    obtain ⟨cs', fr, hcs⟩ := h6 hn a ha
    rw [hA] at ha
    injection ha with ha
    subst ha
    exact ⟨cs', fr, (hbk b off hA hn hb).trans hcs⟩
theorem Rdr.blk {w : World} {g : Nat} {s : RS} (h : Rdr w g s) : ∃ cs, Blk w g 141 cs := by
  obtain ⟨A, c, h1, _⟩ := h
  exact ⟨_, h1⟩

/-- the state that lies in block g -/
def StW (w : World) (base g : Nat) (s : StP) : Prop :=
  ∃ A c, Blk w g 25 #[.int .i64 s.t, .int .i64 s.v, .slice A s.es.length c] ∧ base ≤ g ∧ FreeN 2 w base 73 A s.es.length c (ecs s.es)
section
variable {w w' : World} {base g : Nat} {s : StP}
theorem StW.on (h : StW w base g s) (hb : Below w.heap.size w w') : StW w' base g s := by
  obtain ⟨A, c, h1, h2, h3⟩ := h
  exact ⟨A, c, h1.below hb h1.lt, h2, h3.on hb⟩
theorem StW.lt (h : StW w base g s) : g < w.heap.size := by obtain ⟨A, c, h1, _⟩ := h; exact h1.lt
/-- another block turns, of another type -/
theorem StW.grown {q : Nat} {T : TypeId} {cs : Array Value} (h : StW w base g s) (hq : Blk w q T cs) (h1 : T ≠ 25) (h2 : T ≠ 73) (hg : w.grownBy w' (some q)) : StW w' base g s := by
  obtain ⟨A, c, k1, k2, k3⟩ := h
  refine ⟨A, c, k1.grown hg (fun e => ?_), k2, k3.grown hg (fun k hk e => ?_)⟩
  · injection e with e
    exact hq.apart k1 h1 e.symm
  · injection e with e
    obtain ⟨_, cur, hB⟩ := k3.foot_at k hk
    exact hq.apart hB h2 e.symm
end
/-- entries' row lies in another block than the state -/
theorem foot_far2 {w : World} {base g n c : Nat} {A : Option Addr} {xs : List Value} {cs : Array Value} (hb : Blk w g 25 cs) (h : FreeN 2 w base 73 A n c xs) : ∀ k, foot A c = some k → k ≠ g := by
  intro k hk
  obtain ⟨_, cur, hB⟩ := h.foot_at k hk
  exact hB.apart hb (by decide)

set_option maxRecDepth 100000 in
set_option maxHeartbeats 800000 in
/-- hard.playHard -/
theorem playHard_any (base g gR : Nat) (t v : Int) (es : List Ent) (r r1 r2 : RS) (t1 v1 : Int) (h1 : r.int 0 1099511627776 = (t1, r1)) (h2 : r1.int (-1) 6 = (v1, r2)) (w : World) (h : StW w base g ⟨t, v, es⟩) (hr : Rdr w gR r) (hgR : base ≤ gR) (hB : base ≤ w.heap.size) :
    Calls Try.prog 65 #[.pointer (some ⟨g, 0, none⟩), .pointer (some ⟨gR, 0, none⟩)] w fun e w' =>
      e = .returned (.bool r2.done) ∧ StW w' base g ⟨t1, v1, es⟩ ∧ Below base w w' := by
  have hi := rInt_any gR r 0 1099511627776 w hr
  rw [h1] at hi
  have hi2 := fun W hW => rInt_any gR r1 (-1) 6 W hW
  rw [h2] at hi2
  simp only at hi hi2
  have HI := Lib.hid hi
  have HI2 := Lib.hid hi2
  clear hi hi2 h1 h2
  obtain ⟨cR, hbR⟩ := hr.blk
  have H := Lib.hid h
  have HBR := Lib.hid hbR
  have HGR := Lib.hid hgR
  have HB := Lib.hid hB
  clear h hr hbR hgR hB
  go_enter Try.func65, Try.ntmps65
  go_wp2_with fail
  refine HI.out.mono ?_
  rintro e w1 ⟨rfl, hr1, hg1⟩
  have hst1 := H.out.grown HBR.out (by decide) (by decide) hg1
  have hb1 : Below base w w1 := (Below.refl base w).grown hg1 HB.out (fun k e => by injection e with e; have := HGR.out; omega)
  obtain ⟨A, c, hbk, hg, hf⟩ := hst1
  have c0 : w1.cell? ⟨g, 0, none⟩ = some (.int .i64 t) := by rw [hbk.cell]; rfl
  have f0 := hbk.frozen 0
  have hbk2 := hbk.set_ 0 (.int .i64 t1)
  have hf2 := hf.far (p := ⟨g, 0, none⟩) (foot_far2 hbk hf) (.int .i64 t1)
  have hgn : gR ≠ g := by
    obtain ⟨cs, hB⟩ := hr1.blk
    exact hB.apart hbk (by decide)
  have hr2 : Rdr (w1.setCell ⟨g, 0, none⟩ (.int .i64 t1)) gR r1 := hr1.far hbk (by decide) (gb_set (gb_refl w1 _) 0 _) (Ne.symm hgn)
  have hb2 := hb1.setCell (p := ⟨g, 0, none⟩) hg (.int .i64 t1)
  have HBK := Lib.hid hbk2
  have HF := Lib.hid hf2
  have HR1 := Lib.hid hr2
  have HB1 := Lib.hid hb2
  have HG := Lib.hid hg
  have HGN := Lib.hid hgn
  clear hbk hf hr1 hb1 hg1 hg hbk2 hf2 hr2 hb2 hgn
  go_wp2_with fail
  refine (HI2.out _ HR1.out).mono ?_
  rintro e w2 ⟨rfl, hr3, hg3⟩
  obtain ⟨cs3, hB3⟩ := HR1.out.blk
  have hbk3 := HBK.out.grown hg3 (fun e => by injection e with e; exact HGN.out e.symm)
  have hf3 := HF.out.grown hg3 (fun k hk e => by
    injection e with e
    obtain ⟨_, cur, hB⟩ := HF.out.foot_at k hk
    exact hB3.apart hB (by decide) e.symm)
  have hb3 := HB1.out.grown hg3 (by have := HB.out; have := HB1.out.size; omega) (fun k e => by injection e with e; have := HGR.out; omega)
  have c1 : w2.cell? ⟨g, 1, none⟩ = some (.int .i64 v) := by rw [hbk3.cell]; rfl
  have f1 := hbk3.frozen 1
  have hr4 : Rdr (w2.setCell ⟨g, 1, none⟩ (.int .i64 v1)) gR r2 := hr3.far hbk3 (by decide) (gb_set (gb_refl w2 _) 1 _) (Ne.symm HGN.out)
  have hbk4 := hbk3.set_ 1 (.int .i64 v1)
  have hf4 := hf3.far (p := ⟨g, 1, none⟩) (foot_far2 hbk3 hf3) (.int .i64 v1)
  have hb4 := hb3.setCell (p := ⟨g, 1, none⟩) HG.out (.int .i64 v1)
  have HR4 := Lib.hid hr4
  have HBK4 := Lib.hid hbk4
  have HF4 := Lib.hid hf4
  have HB4 := Lib.hid hb4
  clear hr3 hg3 hB3 hbk3 hf3 hb3 hr4 hbk4 hf4 hb4 c0 f0
  go_wp2_with fail
  refine (rDone_any gR r2 _ HR4.out).mono ?_
  rintro e w3 ⟨rfl, rfl⟩
  go_wp2_with fail
  go_ret
  exact ⟨rfl, ⟨A, c, HBK4.out, HG.out, HF4.out⟩, HB4.out⟩

theorem RS.int_good {s : RS} {a b : Int} (h : (s.int a b).2.bad = false) : a ≤ (s.int a b).1 ∧ (s.int a b).1 ≤ b ∧ s.bad = false := by
  unfold RS.int at *
  split at h
  · cases h
  · rename_i p hp
    split at h
    · cases h
    · rename_i hn
      rw [if_neg hn]
      refine ⟨by simp only; omega, by simp only; omega, ?_⟩
      unfold RS.take at hp
      split at hp
      · rename_i hh
        exact hh.1
      · cases hp
theorem RS.text_good {s : RS} {m : Int} (h : (s.text m).2.bad = false) : s.bad = false := by
  unfold RS.text at h
  split at h
  · cases h
  · rename_i p hp
    unfold RS.take at hp
    split at hp
    · rename_i hh
      exact hh.1
    · cases hp
/-- 's[:k]' of a row that may be written -/
theorem FreeN.upto {sz : Nat} {w : World} {base n c k : Nat} {e : TypeId} {A : Option Addr} {xs : List Value} (h : FreeN sz w base e A n c xs) (hk : k ≤ n) : FreeN sz w base e A k c (xs.take (k * sz)) := by
  have hkm : k * sz ≤ n * sz := Nat.mul_le_mul_right sz hk
  refine ⟨by rw [List.length_take, h.1]; omega, by have := h.2.1; omega, h.2.2.1, fun hc => ?_⟩
  obtain ⟨g, off, cur, hA, hb, hB, hs, hx⟩ := h.2.2.2 hc
  exact ⟨g, off, cur, hA, hb, hB, hs, fun j hj => by rw [hx j (by omega), List.getElem?_take, if_pos hj]⟩

/-- a state and a reader, behind a call of the reader -/
theorem state_read {w w' : World} {base g gR : Nat} {s : StP} {cs : Array Value} (h : StW w base g s) (hb : Blk w gR 141 cs) (hg : w.grownBy w' (some gR)) : StW w' base g s := h.grown hb (by decide) (by decide) hg

/-- what a record's playing answers -/
def PlayRet (w : World) (base g : Nat) (ok : Bool) (s : StP) (e : Ending) (w' : World) : Prop := e = .returned (.bool ok) ∧ (ok = true → StW w' base g s) ∧ Below base w w'

set_option maxRecDepth 100000 in
set_option maxHeartbeats 800000 in
/-- hard.playEntry -/
theorem playEntry_any (base g gR : Nat) (t v : Int) (es : List Ent) (r r1 r2 r3 : RS) (i1 t1 : Int) (d : List UInt8) (ok : Bool) (hok : r3.done = ok) (h1 : r.int 1 ((es.length : Int) + 1) = (i1, r1)) (h2 : r1.int 1 1099511627776 = (t1, r2)) (h3 : r2.text 512 = (d, r3)) (w : World) (h : StW w base g ⟨t, v, es⟩) (hr : Rdr w gR r) (hgR : base ≤ gR) (hB : base ≤ w.heap.size) (hn : es.length ≤ 1099511627776) :
    Calls Try.prog 67 #[.pointer (some ⟨g, 0, none⟩), .pointer (some ⟨gR, 0, none⟩)] w
      (PlayRet w base g ok ⟨t, v, es.take (i1 - 1).toNat ++ [⟨t1, ⟨d.toArray⟩⟩]⟩) := by
  have hrange : r3.bad = false → 1 ≤ i1 ∧ i1 ≤ (es.length : Int) + 1 := fun hb3 => by
    have k3 := RS.text_good (s := r2) (m := 512) (by rw [h3]; exact hb3)
    have k2 := (RS.int_good (s := r1) (a := 1) (b := 1099511627776) (by rw [h2]; exact k3)).2.2
    have k1 := RS.int_good (s := r) (a := 1) (b := (es.length : Int) + 1) (by rw [h1]; exact k2)
    rw [h1] at k1
    exact ⟨k1.1, k1.2.1⟩
  have hi := rInt_any gR r 1 ((es.length : Int) + 1) w hr
  rw [h1] at hi
  have hi2 := fun W hW => rInt_any gR r1 1 1099511627776 W hW
  rw [h2] at hi2
  have hi3 := fun W hW => rText_any gR r2 512 W hW
  rw [h3] at hi3
  simp only at hi hi2 hi3
  have HI := Lib.hid hi
  have HI2 := Lib.hid hi2
  have HI3 := Lib.hid hi3
  have HRG := Lib.hid hrange
  have HOK := Lib.hid hok
  clear hok
  have HR0 := Lib.hid hr
  clear hi hi2 hi3 h1 h2 h3 hrange hr
  obtain ⟨A, c, hbk, hg, hf⟩ := h
  have c2 : w.cell? ⟨g, 2, none⟩ = some (.slice A es.length c) := by rw [hbk.cell]; rfl
  have HS := Lib.hid (show StW w base g ⟨t, v, es⟩ from ⟨A, c, hbk, hg, hf⟩)
  have HGR := Lib.hid hgR
  have HB := Lib.hid hB
  have hw1 : wrap64 ((es.length : Int) + 1) = (es.length : Int) + 1 := wr_64 (by omega) (by omega)
  clear hbk hg hf hgR hB
  have HN := Lib.hid hn
  clear hn
  go_enter Try.func67, Try.ntmps67
  go_wp2_with fail
  clear hw1
  refine HI.out.mono ?_
  rintro e w1 ⟨rfl, hr1, hg1⟩
  obtain ⟨cs0, hB0⟩ := HR0.out.blk
  have HS1 := Lib.hid (state_read HS.out hB0 hg1)
  have HB1 := Lib.hid ((Below.refl base w).grown hg1 HB.out (fun k e => by injection e with e; have := HGR.out; omega))
  clear hB0 hg1 c2
  go_wp2_with fail
  obtain ⟨cs1, hB1⟩ := hr1.blk
  refine (HI2.out _ hr1).mono ?_
  rintro e w2 ⟨rfl, hr2, hg2⟩
  have HS2 := Lib.hid (state_read HS1.out hB1 hg2)
  have HB2 := Lib.hid (HB1.out.grown hg2 (by have := HB.out; have := HB1.out.size; omega) (fun k e => by injection e with e; have := HGR.out; omega))
  clear hB1 hg2 hr1
  go_wp2_with fail
  obtain ⟨cs2, hB2⟩ := hr2.blk
  refine (HI3.out _ hr2).mono ?_
  rintro e w3 ⟨rfl, hr3, hg3⟩
  have HS3 := Lib.hid (state_read HS2.out hB2 hg3)
  have HB3 := Lib.hid (HB2.out.grown hg3 (by have := HB.out; have := HB2.out.size; omega) (fun k e => by injection e with e; have := HGR.out; omega))
  clear hB2 hg3 hr2
  go_wp2_with fail
  refine (rDone_any gR r3 _ hr3).mono ?_
  rintro e w4 ⟨rfl, rfl⟩
  rw [HOK.out]
  cases ok with
  | false =>
    go_wp2_with fail
    go_ret
    exact ⟨rfl, fun h => Bool.noConfusion h, HB3.out⟩
  | true =>
    have hbad : r3.bad = false := by
      have hdn := HOK.out
      unfold RS.done at hdn
      rw [Bool.and_eq_true] at hdn
      simpa using hdn.1
    obtain ⟨q1, q2⟩ := HRG.out hbad
    obtain ⟨k, hk⟩ : ∃ k : Nat, i1 = (k : Int) + 1 := ⟨(i1 - 1).toNat, by omega⟩
    subst hk
    have hkl : k ≤ es.length := by omega
    have HKT := Lib.hid (show ((k : Int) + 1 - 1).toNat = k by omega)
    obtain ⟨A3, c3, hbk, hg, hf⟩ := HS3.out
    have c2 : w4.cell? ⟨g, 2, none⟩ = some (.slice A3 es.length c3) := by rw [hbk.cell]; rfl
    have f2 := hbk.frozen 2
    have hsl := fun W => ents_upto A3 es.length c3 k (k : Int) rfl (Nat.le_trans hkl hf.2.1) W
    have hfu := hf.upto hkl
    rw [ecs_take] at hfu
    obtain ⟨i0, hi0, hz0, hz1, hz2⟩ := info_parts ent_row
    have hkb : k ≤ 1099511627776 := by have := HN.out; omega
    have hm1 : k + 1 ≤ maxLen := Nat.le_trans (show k + 1 ≤ 1099511627777 by omega) (by decide)
    have hm2 : (k + 1) * 24 ≤ 140737488355328 := by clear hm1; omega
    have hwk : wrap64 (k : Int) = (k : Int) := wr_64 (by clear hm1; omega) (by clear hm1; omega)
    have HFU := Lib.hid hfu
    have HBK := Lib.hid hbk
    have HG := Lib.hid hg
    have HTK := Lib.hid (show (es.take k).length = k by rw [List.length_take]; omega)
    have HFF := Lib.hid (foot_far2 hbk hf)
    have HBZ := Lib.hid (show base ≤ w4.heap.size by have := HB.out; have := HB3.out.size; omega)
    clear hfu hbk hg hf q1 q2 hkl hbad hr3 HI2 HI3
    have hba := (Below.refl w4.heap.size w4).alloc (Nat.le_refl _) (.cells #[.int .i64 t1, .string ⟨d.toArray⟩] 73)
    have hx : Sees (w4.alloc (.cells #[.int .i64 t1, .string ⟨d.toArray⟩] 73)) (w4.alloc (.cells #[.int .i64 t1, .string ⟨d.toArray⟩] 73)).heap.size (some ⟨w4.heap.size, 0, none⟩) (1 * 2) (ecs [⟨t1, ⟨d.toArray⟩⟩]) := sees_new w4 #[.int .i64 t1, .string ⟨d.toArray⟩] 73
    have HFA := Lib.hid (HFU.out.on hba)
    have HBA := Lib.hid (HBK.out.below hba HBK.out.lt)
    have HBW := Lib.hid (HB3.out.alloc HBZ.out (.cells #[.int .i64 t1, .string ⟨d.toArray⟩] 73))
    have HBZ2 := Lib.hid (Nat.le_trans HBZ.out hba.size)
    clear hba
    go_wp2_with (at_builtin; go_loud (
      refine wpList_append_freeN (sz := 2) _ rfl (.tmp 30) (.tmp 34) _ rfl base 73 i0 _ 24 sl_ent hi0 hz0 hz1 hz2 rfl (by decide) A3 k c3 (ecs (es.take k)) rfl HFA.out _ _ 1 1 (ecs [⟨t1, ⟨d.toArray⟩⟩]) rfl hx (ecs_one _) hm1 hm2 HBZ2.out ?_
      intro A5 c5 w5 ha5
      have hbk5 := HBA.out.grown ha5.2.1 (fun e => HFF.out g e.symm rfl)
      have d2 : w5.cell? ⟨g, 2, none⟩ = some (.slice A3 es.length c3) := (by rw [hbk5.cell]; rfl)
      have g2 := hbk5.frozen 2
      have hff5 := foot_far2 hbk5 ha5.1
      have HBK6 := Lib.hid (hbk5.set_ 2 (.slice A5 (k + 1) c5))
      have HF6 := Lib.hid (ha5.1.far (p := ⟨g, 2, none⟩) hff5 (.slice A5 (k + 1) c5))
      have HB6 := Lib.hid ((ha5.below HFA.out HBW.out HBZ2.out (Nat.le_refl _)).setCell (p := ⟨g, 2, none⟩) HG.out (.slice A5 (k + 1) c5))
      clear ha5 hbk5 hff5 hx))
    go_ret
    have hkt := HKT.out
    rw [hkt]
    have hl : (es.take k ++ [(⟨t1, ⟨d.toArray⟩⟩ : Ent)]).length = k + 1 := by rw [List.length_append, HTK.out]; rfl
    refine ⟨rfl, fun _ => ⟨A5, c5, by rw [hl]; exact HBK6.out, HG.out, ?_⟩, HB6.out⟩
    have h9 := HF6.out
    rw [← ecs_append] at h9
    rw [hl]
    exact h9
end Go.Proofs.Ytlggkeoihpcdiaa
