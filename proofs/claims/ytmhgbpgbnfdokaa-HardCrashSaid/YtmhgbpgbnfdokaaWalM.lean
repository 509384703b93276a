/- Records as lists of bytes: what any bytes tell, what is left of them behind a crash, and that a turned byte ends the reading ahead of it. No program is named. -/
import Derived.Test.YtmhgbpgbnfdokaaFrM
namespace Go.Proofs.Ytmhgbpgbnfdokaa

theorem lenF_ok : ∀ (b : List UInt8), (lenF b).2 = 0 → ∃ t, b = hd (lenF b).1 ++ t
  | [], h => absurd h (by simp [lenF])
  | [_], h => absurd h (by simp [lenF])
  | [_, _], h => absurd h (by simp [lenF])
  | [_, _, _], h => absurd h (by simp [lenF])
  | b0 :: b1 :: b2 :: b3 :: t, h => by
    simp only [lenF] at h ⊢
    by_cases h1 : b0 + b2 = 255 ∧ b1 + b3 = 255
    · rw [if_pos h1] at h ⊢
      by_cases h2 : 4096 < b0.toNat * 256 + b1.toNat
      · rw [if_pos h2] at h
        simp at h
      · rw [if_neg h2]
        refine ⟨t, ?_⟩
        have hb := b1.toNat_lt
        have e1 : UInt8.ofNat ((b0.toNat * 256 + b1.toNat) / 256) = b0 := by
          rw [show (b0.toNat * 256 + b1.toNat) / 256 = b0.toNat from by omega]
          exact UInt8.ofNat_toNat
        have e2 : UInt8.ofNat (b0.toNat * 256 + b1.toNat) = b1 := by
          apply UInt8.toNat_inj.1
          rw [UInt8.toNat_ofNat']
          omega
        unfold hd
        simp only [e1, e2, List.cons_append, List.nil_append]
        rw [← (byte_sum _ _).1 h1.1, ← (byte_sum _ _).1 h1.2]
    · rw [if_neg h1] at h
      simp at h

/-- what is taken off is a frame -/
theorem takeF_inv (b : List UInt8) (h : (takeF b).e = 0) : b = frameOf (takeF b).p ++ b.drop (takeF b).n ∧ (takeF b).p.length ≤ 4096 := by
  refine ⟨?_, (takeF_some b h).2.2⟩
  by_cases h1 : (lenF b).2 ≠ 0
  · have e : takeF b = ⟨[], 0, (lenF b).2⟩ := by unfold takeF; rw [if_pos h1]
    rw [e] at h
    exact absurd h h1
  by_cases h2 : b.length < (lenF b).1 + 8
  · have e : takeF b = ⟨[], 0, 2⟩ := by unfold takeF; rw [if_neg h1, if_pos h2]
    rw [e] at h
    exact absurd h (by decide)
  by_cases h3 : le4 (crcOf ((b.drop 4).take (lenF b).1)) = (b.drop (4 + (lenF b).1)).take 4
  · have e : takeF b = ⟨(b.drop 4).take (lenF b).1, (lenF b).1 + 8, 0⟩ := by unfold takeF; rw [if_neg h1, if_neg h2, if_pos h3]
    rw [e]
    obtain ⟨t, ht⟩ := lenF_ok b (by omega)
    clear e h h1
    generalize (lenF b).1 = N at *
    subst ht
    have d4 : (hd N ++ t).drop 4 = t := List.drop_left' rfl
    rw [← List.drop_drop, d4] at h3
    show hd N ++ t = frameOf (((hd N ++ t).drop 4).take N) ++ (hd N ++ t).drop (N + 8)
    have d8 : (hd N ++ t).drop (N + 8) = (t.drop N).drop 4 := by rw [show N + 8 = 4 + (N + 4) from by omega, ← List.drop_drop, d4, List.drop_drop]
    have hl : (t.take N).length = N := by
      rw [List.length_append, hd_length] at h2
      rw [List.length_take]
      omega
    rw [d8, d4]
    unfold frameOf
    rw [hl, h3]
    simp only [List.append_assoc]
    rw [List.take_append_drop, List.take_append_drop]
  · have e : takeF b = ⟨[], 0, 3⟩ := by unfold takeF; rw [if_neg h1, if_neg h2, if_neg h3]
    rw [e] at h
    exact absurd h (by decide)

/-- what stands behind a frame makes no difference -/
theorem takeF_more (b r : List UInt8) (h : (takeF b).e = 0) : takeF (b ++ r) = takeF b := by
  obtain ⟨h1, h2⟩ := takeF_inv b h
  generalize (takeF b).p = p at *
  generalize b.drop (takeF b).n = q at *
  rw [h1, List.append_assoc, takeF_frame p _ h2, takeF_frame p _ h2]

/-- a part of a frame, a byte of it turned, isn't read -/
theorem takeF_torn (p : List UInt8) (j a : Nat) (y : UInt8) (h : p.length ≤ 4096) (hj : j < p.length + 8) : (takeF (((frameOf p).take j).set a y)).e ≠ 0 := by
  have hfl := frameOf_length p
  have hp2 := takeF_part p j h hj
  by_cases ha : a < j
  · by_cases hy : (frameOf p)[a]? = some y
    · have h1 : ((frameOf p).take j)[a]? = some y := by rw [List.getElem?_take, if_pos ha]; exact hy
      obtain ⟨hlt, hv⟩ := List.getElem?_eq_some_iff.1 h1
      rw [← hv, List.set_getElem_self, hp2]
      decide
    · intro h0
      have h1 := takeF_more _ ((frameOf p).drop j) h0
      have e : ((frameOf p).take j).set a y ++ (frameOf p).drop j = (frameOf p).set a y ++ [] := by
        rw [List.append_nil, ← List.set_append_left _ _ (by rw [List.length_take]; omega), List.take_append_drop]
      rw [e] at h1
      exact takeF_turned p [] a y h (by omega) hy (by rw [h1]; exact h0)
  · rw [List.set_eq_of_length_le (by rw [List.length_take]; omega), hp2]
    decide

/-! ### records -/
/-- a record: its kind, its bytes -/
abbrev RecM := UInt8 × List UInt8
def RightM (r : RecM) : Prop := r.1 ≠ 0 ∧ r.2.length < 4096
def recB (r : RecM) : List UInt8 := frameOf (r.1 :: r.2)
def recsB (rs : List RecM) : List UInt8 := (rs.map recB).flatten
theorem recB_length (r : RecM) : (recB r).length = r.2.length + 9 := by unfold recB; rw [frameOf_length]; rfl
theorem recsB_nil : recsB [] = [] := rfl
theorem recsB_cons (r : RecM) (rs : List RecM) : recsB (r :: rs) = recB r ++ recsB rs := rfl
theorem recsB_append (a b : List RecM) : recsB (a ++ b) = recsB a ++ recsB b := by unfold recsB; rw [List.map_append, List.flatten_append]

/-- the records, where the last one ends, and the error's number; fuel for so many bytes -/
def readF : Nat → List UInt8 → List RecM × Nat × Nat
  | 0, _ => ([], 0, 0)
  | f + 1, b => if b.length = 0 then ([], 0, 0) else if (takeF b).e ≠ 0 then ([], 0, (takeF b).e) else
    if (takeF b).p.headD 0 = 0 then ([], 0, 2) else
    (((takeF b).p.headD 0, (takeF b).p.tail) :: (readF f (b.drop (takeF b).n)).1, (takeF b).n + (readF f (b.drop (takeF b).n)).2.1, (readF f (b.drop (takeF b).n)).2.2)
theorem readF_fuel : ∀ (f g : Nat) (b : List UInt8), b.length ≤ f → b.length ≤ g → readF f b = readF g b
  | 0, g, b, hf, hg => by
    have : b = [] := List.eq_nil_of_length_eq_zero (by omega)
    subst this
    cases g <;> rfl
  | f + 1, 0, b, hf, hg => by
    have : b = [] := List.eq_nil_of_length_eq_zero (by omega)
    subst this
    rfl
  | f + 1, g + 1, b, hf, hg => by
    unfold readF
    by_cases h0 : b.length = 0
    · rw [if_pos h0, if_pos h0]
    by_cases he : (takeF b).e ≠ 0
    · rw [if_neg h0, if_neg h0, if_pos he, if_pos he]
    have hn := takeF_some b (by omega)
    rw [readF_fuel f g (b.drop (takeF b).n) (by rw [List.length_drop]; omega) (by rw [List.length_drop]; omega)]
/-- what any bytes tell -/
def readB (b : List UInt8) : List RecM × Nat × Nat := readF b.length b
theorem readB_nil : readB [] = ([], 0, 0) := rfl
theorem readB_open (b : List UInt8) : readB b = if b.length = 0 then ([], 0, 0) else if (takeF b).e ≠ 0 then ([], 0, (takeF b).e) else
    if (takeF b).p.headD 0 = 0 then ([], 0, 2) else
    (((takeF b).p.headD 0, (takeF b).p.tail) :: (readB (b.drop (takeF b).n)).1, (takeF b).n + (readB (b.drop (takeF b).n)).2.1, (readB (b.drop (takeF b).n)).2.2) := by
  have e : readB b = readF (b.length + 1) b := readF_fuel _ _ _ (Nat.le_refl _) (by omega)
  have e2 : readB (b.drop (takeF b).n) = readF b.length (b.drop (takeF b).n) := readF_fuel _ _ _ (Nat.le_refl _) (by rw [List.length_drop]; omega)
  rw [e, e2]
  rfl
theorem readB_stop (b : List UInt8) (he : (takeF b).e ≠ 0) : (readB b).1 = [] ∧ (readB b).2.1 = 0 := by
  rw [readB_open]
  by_cases h0 : b.length = 0
  · rw [if_pos h0]; exact ⟨rfl, rfl⟩
  · rw [if_neg h0, if_pos he]; exact ⟨rfl, rfl⟩
theorem readB_next (b : List UInt8) (x : UInt8) (d : List UInt8) (n : Nat) (h0 : b.length ≠ 0) (ht : takeF b = ⟨x :: d, n, 0⟩) (hx : x ≠ 0) :
    readB b = ((x, d) :: (readB (b.drop n)).1, n + (readB (b.drop n)).2.1, (readB (b.drop n)).2.2) := by
  rw [readB_open, if_neg h0, if_neg (by rw [ht]; simp), if_neg (by rw [ht]; exact hx), ht]
  rfl
theorem readB_cons (r : RecM) (b : List UInt8) (h : RightM r) : readB (recB r ++ b) = (r :: (readB b).1, (recB r).length + (readB b).2.1, (readB b).2.2) := by
  have ht : takeF (recB r ++ b) = ⟨r.1 :: r.2, r.2.length + 9, 0⟩ := takeF_frame (r.1 :: r.2) b (by have := h.2; simp; omega)
  have hl := recB_length r
  rw [readB_next _ _ _ _ (by rw [List.length_append]; omega) ht h.1, ← hl, List.drop_left]
theorem readB_recs (b : List UInt8) : ∀ (rs : List RecM), (∀ r ∈ rs, RightM r) → readB (recsB rs ++ b) = (rs ++ (readB b).1, (recsB rs).length + (readB b).2.1, (readB b).2.2)
  | [], _ => by simp [recsB_nil]
  | r :: rs, h => by
    rw [recsB_cons, List.append_assoc, readB_cons r _ (h r (by simp)), readB_recs b rs (fun x hx => h x (by simp [hx]))]
    simp [Nat.add_assoc]
/-- what is read are the records of the first bytes -/
theorem readB_inv : ∀ (n : Nat) (b : List UInt8), b.length ≤ n → (readB b).2.1 ≤ b.length ∧ b.take (readB b).2.1 = recsB (readB b).1 ∧ ∀ r ∈ (readB b).1, RightM r
  | 0, b, hn => by
    have : b = [] := List.eq_nil_of_length_eq_zero (by omega)
    subst this
    exact ⟨Nat.le_refl _, rfl, fun r hr => by cases hr⟩
  | n + 1, b, hn => by
    rw [readB_open]
    by_cases h0 : b.length = 0
    · rw [if_pos h0]
      exact ⟨Nat.zero_le _, rfl, fun r hr => by cases hr⟩
    by_cases he : (takeF b).e ≠ 0
    · rw [if_neg h0, if_pos he]
      exact ⟨Nat.zero_le _, rfl, fun r hr => by cases hr⟩
    by_cases hk : (takeF b).p.headD 0 = 0
    · rw [if_neg h0, if_neg he, if_pos hk]
      exact ⟨Nat.zero_le _, rfl, fun r hr => by cases hr⟩
    rw [if_neg h0, if_neg he, if_neg hk]
    have he0 : (takeF b).e = 0 := by omega
    obtain ⟨k1, k2, k3⟩ := takeF_some b he0
    obtain ⟨hb, _⟩ := takeF_inv b he0
    obtain ⟨i1, i2, i3⟩ := readB_inv n (b.drop (takeF b).n) (by rw [List.length_drop]; omega)
    generalize readB (b.drop (takeF b).n) = R at *
    generalize takeF b = T at *
    have hp : T.p = T.p.headD 0 :: T.p.tail := by
      cases hq : T.p with
      | nil => rw [hq] at hk; exact absurd rfl hk
      | cons x t => rfl
    rw [List.length_drop] at i1
    refine ⟨by show T.n + R.2.1 ≤ b.length; omega, ?_, ?_⟩
    · show b.take (T.n + R.2.1) = recsB ((T.p.headD 0, T.p.tail) :: R.1)
      rw [recsB_cons, ← i2]
      unfold recB
      simp only
      rw [← hp]
      conv => lhs; rw [hb]
      rw [List.take_append, frameOf_length, k1, List.take_of_length_le (by rw [frameOf_length]; omega), show T.p.length + 8 + R.2.1 - (T.p.length + 8) = R.2.1 from by omega]
    · intro r hr
      rcases List.mem_cons.1 hr with rfl | hr
      · refine ⟨hk, ?_⟩
        have := congrArg List.length hp
        simp only [List.length_cons] at this
        show T.p.tail.length < 4096
        omega
      · exact i3 r hr
/-- recovered again it is as it was -/
theorem readB_again (b : List UInt8) : readB (b.take (readB b).2.1) = ((readB b).1, (readB b).2.1, 0) := by
  obtain ⟨h1, h2, h3⟩ := readB_inv _ b (Nat.le_refl _)
  have h4 := readB_recs [] _ h3
  rw [List.append_nil, ← h2, readB_nil, List.length_take] at h4
  rw [h4]
  simp only [List.append_nil, Nat.add_zero]
  rw [show min (readB b).2.1 b.length = (readB b).2.1 from by omega]

/-- behind a crash: of what wasn't synced some of the first ones -/
theorem readB_crash : ∀ (tl : List RecM), (∀ r ∈ tl, RightM r) → ∀ (j a : Nat) (y : UInt8), ∃ k, k ≤ tl.length ∧ (readB (((recsB tl).take j).set a y)).1 = tl.take k
  | [], _, j, a, y => ⟨0, by simp, by rw [recsB_nil]; simp [readB_nil]⟩
  | r :: tl, h, j, a, y => by
    have hr := h r (by simp)
    have hl := recB_length r
    have hp : (r.1 :: r.2).length ≤ 4096 := by have := hr.2; simp; omega
    have hpl : (r.1 :: r.2).length + 8 = (recB r).length := by rw [hl]; rfl
    rw [recsB_cons]
    by_cases hj : j < (recB r).length
    · refine ⟨0, by omega, ?_⟩
      rw [List.take_append_of_le_length (by omega)]
      exact (readB_stop _ (takeF_torn (r.1 :: r.2) j a y hp (by omega))).1
    · rw [List.take_append, List.take_of_length_le (by omega)]
      by_cases ha : a < (recB r).length
      · rw [List.set_append_left _ _ ha]
        by_cases hy : (recB r)[a]? = some y
        · obtain ⟨hlt, hv⟩ := List.getElem?_eq_some_iff.1 hy
          rw [← hv, List.set_getElem_self]
          obtain ⟨k, hk, he⟩ := readB_crash tl (fun x hx => h x (by simp [hx])) (j - (recB r).length) ((recsB tl).take (j - (recB r).length)).length y
          rw [List.set_eq_of_length_le (Nat.le_refl _)] at he
          exact ⟨k + 1, by simp; omega, by rw [readB_cons r _ hr, he, List.take_succ_cons]⟩
        · exact ⟨0, by omega, (readB_stop _ (takeF_turned (r.1 :: r.2) _ a y hp ha hy)).1⟩
      · rw [List.set_append_right _ _ (by omega)]
        obtain ⟨k, hk, he⟩ := readB_crash tl (fun x hx => h x (by simp [hx])) (j - (recB r).length) (a - (recB r).length) y
        exact ⟨k + 1, by simp; omega, by rw [readB_cons r _ hr, he, List.take_succ_cons]⟩
/-- a byte that is another one ends the reading ahead of it -/
theorem readB_spoilt (m : List UInt8) (y : UInt8) : ∀ (l : List RecM), (∀ r ∈ l, RightM r) → ∀ (i : Nat), i < (recsB l).length → (recsB l)[i]? ≠ some y → (readB ((recsB l).set i y ++ m)).2.1 < (recsB l).length
  | [], _, i, hi, _ => absurd hi (by simp [recsB_nil])
  | r :: l, h, i, hi, hy => by
    have hr := h r (by simp)
    have hl := recB_length r
    have hp : (r.1 :: r.2).length ≤ 4096 := by have := hr.2; simp; omega
    rw [recsB_cons] at hi hy ⊢
    by_cases ha : i < (recB r).length
    · rw [List.getElem?_append_left ha] at hy
      have hs := (readB_stop ((recB r).set i y ++ (recsB l ++ m)) (takeF_turned (r.1 :: r.2) _ i y hp ha hy)).2
      rw [List.set_append_left _ _ ha, List.append_assoc, hs]
      omega
    · rw [List.getElem?_append_right (by omega)] at hy
      rw [List.length_append] at hi
      rw [List.set_append_right _ _ (by omega), List.append_assoc, readB_cons r _ hr, List.length_append]
      have := readB_spoilt m y l (fun x hx => h x (by simp [hx])) (i - (recB r).length) (by omega) hy
      show (recB r).length + _ < _
      omega
end Go.Proofs.Ytmhgbpgbnfdokaa
