/- Frames as lists of bytes: what one is, what is taken off, and that a turned byte isn't read. No program is named. -/
import Derived.Test.YtgioaapflilhhabCrcM
namespace Go.Proofs.Ytgioaapflilhhab

/-- the four bytes ahead of n bytes -/
def hd (n : Nat) : List UInt8 := [UInt8.ofNat (n / 256), UInt8.ofNat n, 255 - UInt8.ofNat (n / 256), 255 - UInt8.ofNat n]
/-- the frame of a payload -/
def frameOf (p : List UInt8) : List UInt8 := hd p.length ++ (p ++ le4 (crcOf p))
/-- what is taken off: the payload, the frame's size, the error's number -/
structure TK where
  p : List UInt8
  n : Nat
  e : Nat
/-- the payload's length, and the error's number, as the first four bytes tell -/
def lenF : List UInt8 → Nat × Nat
  | b0 :: b1 :: b2 :: b3 :: _ => if b0 + b2 = 255 ∧ b1 + b3 = 255 then (if 4096 < b0.toNat * 256 + b1.toNat then (0, 4) else (b0.toNat * 256 + b1.toNat, 0)) else (0, 3)
  | _ => (0, 2)
def takeF (b : List UInt8) : TK :=
  if (lenF b).2 ≠ 0 then ⟨[], 0, (lenF b).2⟩ else
  if b.length < (lenF b).1 + 8 then ⟨[], 0, 2⟩ else
  if le4 (crcOf ((b.drop 4).take (lenF b).1)) = (b.drop (4 + (lenF b).1)).take 4 then ⟨(b.drop 4).take (lenF b).1, (lenF b).1 + 8, 0⟩ else ⟨[], 0, 3⟩
def wholeF (b : List UInt8) : List UInt8 × Nat :=
  if (takeF b).e ≠ 0 then ([], (takeF b).e) else if (takeF b).n < b.length then ([], 2) else ((takeF b).p, 0)

theorem hd_length (n : Nat) : (hd n).length = 4 := rfl
theorem le4_length (n : Nat) : (le4 n).length = 4 := rfl
theorem frameOf_length (p : List UInt8) : (frameOf p).length = p.length + 8 := by simp [frameOf, hd_length, le4_length]; omega

theorem byte_sum (x y : UInt8) : x + y = 255 ↔ y = 255 - x := by
  constructor
  · intro h
    rw [← h, UInt8.add_comm, UInt8.add_sub_cancel]
  · intro h
    subst h
    rw [UInt8.add_comm, UInt8.sub_add_cancel]
theorem head_num (n : Nat) (h : n ≤ 4096) : (UInt8.ofNat (n / 256)).toNat * 256 + (UInt8.ofNat n).toNat = n := by
  simp only [UInt8.toNat_ofNat']
  omega
theorem lenF_long {b : List UInt8} (h : 4 ≤ b.length) : ∃ b0 b1 b2 b3 r, b = b0 :: b1 :: b2 :: b3 :: r := by
  match b, h with
  | b0 :: b1 :: b2 :: b3 :: r, _ => exact ⟨b0, b1, b2, b3, r, rfl⟩
theorem lenF_short {b : List UInt8} (h : b.length < 4) : lenF b = (0, 2) := by
  match b, h with
  | [], _ => rfl
  | [_], _ => rfl
  | [_, _], _ => rfl
  | [_, _, _], _ => rfl
theorem lenF_hd (n : Nat) (r : List UInt8) (h : n ≤ 4096) : lenF (hd n ++ r) = (n, 0) := by
  have h1 := head_num n h
  unfold hd
  simp only [List.cons_append, List.nil_append, lenF]
  rw [if_pos ⟨(byte_sum _ _).2 rfl, (byte_sum _ _).2 rfl⟩, h1, if_neg (by omega)]
theorem lenF_le (b : List UInt8) : (lenF b).1 ≤ 4096 := by
  by_cases h : b.length < 4
  · rw [lenF_short h]; omega
  · obtain ⟨b0, b1, b2, b3, r, rfl⟩ := lenF_long (b := b) (by omega)
    simp only [lenF]
    split
    · split
      · simp
      · show b0.toNat * 256 + b1.toNat ≤ 4096
        omega
    · simp
theorem lenF_four {b : List UInt8} (h : (lenF b).2 = 0) : 4 ≤ b.length := by
  by_cases h4 : b.length < 4
  · rw [lenF_short h4] at h
    simp at h
  · omega
/-- the head of bytes whose length can be told is that of the length -/
theorem lenF_head {b : List UInt8} (h : (lenF b).2 = 0) : b.take 4 = hd (lenF b).1 := by
  obtain ⟨b0, b1, b2, b3, r, rfl⟩ := lenF_long (lenF_four h)
  simp only [lenF] at h ⊢
  split at h
  · rename_i hs
    split at h
    · simp at h
    · rename_i hb
      rw [if_pos hs, if_neg hb]
      have e0 : UInt8.ofNat ((b0.toNat * 256 + b1.toNat) / 256) = b0 := by
        apply UInt8.toNat_inj.1
        have := UInt8.toNat_lt b0
        have := UInt8.toNat_lt b1
        simp only [UInt8.toNat_ofNat']
        omega
      have e1 : UInt8.ofNat (b0.toNat * 256 + b1.toNat) = b1 := by
        apply UInt8.toNat_inj.1
        have := UInt8.toNat_lt b1
        simp only [UInt8.toNat_ofNat']
        omega
      simp only [hd, e0, e1, List.take_succ_cons, List.take_zero]
      rw [(byte_sum _ _).1 hs.1, (byte_sum _ _).1 hs.2]
  · simp at h
theorem takeF_none (b : List UInt8) (h : (takeF b).e ≠ 0) : (takeF b).p = [] ∧ (takeF b).n = 0 := by
  unfold takeF at h ⊢
  split
  · exact ⟨rfl, rfl⟩
  · rename_i h1
    rw [if_neg h1] at h
    split
    · exact ⟨rfl, rfl⟩
    · rename_i h2
      rw [if_neg h2] at h
      split
      · rename_i h3
        rw [if_pos h3] at h
        exact absurd rfl h
      · exact ⟨rfl, rfl⟩
theorem takeF_some (b : List UInt8) (h : (takeF b).e = 0) : (takeF b).n = (takeF b).p.length + 8 ∧ (takeF b).n ≤ b.length ∧ (takeF b).p.length ≤ 4096 := by
  have hl := lenF_le b
  unfold takeF at h ⊢
  split at h
  · rename_i h1
    exact absurd h h1
  · rename_i h1
    rw [if_neg h1]
    split at h
    · simp at h
    · rename_i h2
      rw [if_neg h2]
      split at h
      · rename_i h3
        rw [if_pos h3]
        have : ((b.drop 4).take (lenF b).1).length = (lenF b).1 := by rw [List.length_take, List.length_drop]; omega
        exact ⟨by rw [this], by show (lenF b).1 + 8 ≤ _; omega, by rw [this]; exact hl⟩
      · simp at h
theorem takeF_le (b : List UInt8) : (takeF b).p.length ≤ b.length := by
  by_cases h : (takeF b).e = 0
  · have := takeF_some b h
    omega
  · rw [(takeF_none b h).1]
    simp
/-- a payload's frame tells it, whatever stands behind -/
theorem takeF_frame (p r : List UInt8) (h : p.length ≤ 4096) : takeF (frameOf p ++ r) = ⟨p, p.length + 8, 0⟩ := by
  have e : frameOf p ++ r = hd p.length ++ (p ++ (le4 (crcOf p) ++ r)) := by simp [frameOf]
  have hl : lenF (frameOf p ++ r) = (p.length, 0) := by rw [e]; exact lenF_hd _ _ h
  have h4 : (frameOf p ++ r).drop 4 = p ++ (le4 (crcOf p) ++ r) := by rw [e]; exact List.drop_left' rfl
  have h5 : (frameOf p ++ r).drop (4 + p.length) = le4 (crcOf p) ++ r := by
    rw [← List.drop_drop, h4, List.drop_left]
  unfold takeF
  rw [hl]
  simp only
  rw [if_neg (by simp), if_neg (by rw [List.length_append, frameOf_length]; omega), h4, h5, List.take_left, List.take_left' (le4_length _), if_pos rfl]
theorem wholeF_frame (p : List UInt8) (h : p.length ≤ 4096) : wholeF (frameOf p) = (p, 0) := by
  have := takeF_frame p [] h
  rw [List.append_nil] at this
  unfold wholeF
  rw [this, if_neg (by simp), if_neg (by rw [frameOf_length]; show ¬ p.length + 8 < p.length + 8; omega)]
/-- a part of a frame isn't read -/
theorem takeF_part (p : List UInt8) (i : Nat) (h : p.length ≤ 4096) (hi : i < p.length + 8) : (takeF ((frameOf p).take i)).e = 2 := by
  have hlen : ((frameOf p).take i).length = i := by rw [List.length_take, frameOf_length]; omega
  by_cases h4 : i < 4
  · unfold takeF
    rw [lenF_short (by rw [hlen]; exact h4)]
    rfl
  · have e : (frameOf p).take i = hd p.length ++ (p ++ le4 (crcOf p)).take (i - 4) := by
      unfold frameOf
      rw [List.take_append, List.take_of_length_le (by rw [hd_length]; omega), hd_length]
    have hl : lenF ((frameOf p).take i) = (p.length, 0) := by rw [e]; exact lenF_hd _ _ h
    unfold takeF
    rw [hl]
    simp only
    rw [if_neg (by simp), if_pos (by rw [hlen]; exact hi)]
theorem take_set_ge {α : Type} (l : List α) (i k : Nat) (y : α) (h : k ≤ i) : (l.set i y).take k = l.take k := by
  rw [List.take_set, List.set_eq_of_length_le (by rw [List.length_take]; omega)]
theorem sum_ne (x y : UInt8) (h : x ≠ y) (z : UInt8) (hz : z + x = 255) : ¬ z + y = 255 := by
  intro e
  rw [(byte_sum _ _).1 hz] at h
  rw [(byte_sum _ _).1 e] at h
  exact h rfl
theorem crc_put (l : List UInt8) (k : Nat) (y : UInt8) (hk : k < l.length) (h : y ≠ l[k]) : crcOf (l.set k y) ≠ crcOf l := by
  have e1 : l = l.take k ++ l[k] :: l.drop (k + 1) := by rw [← List.drop_eq_getElem_cons hk, List.take_append_drop]
  have e2 : l.set k y = l.take k ++ y :: l.drop (k + 1) := List.set_eq_take_append_cons_drop.trans (by rw [if_pos hk])
  rw [e2]
  conv => rhs; rw [e1]
  exact crc_turned _ _ _ _ h
/-- A FRAME OF WHICH ONE BYTE IS ANOTHER ONE isn't read -/
theorem takeF_turned (p r : List UInt8) (i : Nat) (y : UInt8) (h : p.length ≤ 4096) (hi : i < (frameOf p).length) (hy : (frameOf p)[i]? ≠ some y) : (takeF ((frameOf p).set i y ++ r)).e ≠ 0 := by
  have hfl := frameOf_length p
  by_cases h4 : i < 4
  · -- the head: its bytes don't belong together any more
    have hl : (lenF ((frameOf p).set i y ++ r)).2 = 3 := by
      clear hi hfl
      have hh : frameOf p = UInt8.ofNat (p.length / 256) :: UInt8.ofNat p.length :: (255 - UInt8.ofNat (p.length / 256)) :: (255 - UInt8.ofNat p.length) :: (p ++ le4 (crcOf p)) := rfl
      rw [hh] at hy ⊢
      generalize UInt8.ofNat (p.length / 256) = a at *
      generalize UInt8.ofNat p.length = b at *
      generalize p ++ le4 (crcOf p) = q at *
      have hc : i = 0 ∨ i = 1 ∨ i = 2 ∨ i = 3 := by omega
      rcases hc with rfl | rfl | rfl | rfl
      · simp only [List.getElem?_cons_zero, ne_eq, Option.some.injEq] at hy
        simp only [List.set_cons_zero, List.cons_append, lenF]
        rw [if_neg]
        rintro ⟨e, _⟩
        rw [UInt8.add_comm] at e
        exact sum_ne a y hy (255 - a) (by rw [UInt8.sub_add_cancel]) e
      · simp only [List.getElem?_cons_succ, List.getElem?_cons_zero, ne_eq, Option.some.injEq] at hy
        simp only [List.set_cons_succ, List.set_cons_zero, List.cons_append, lenF]
        rw [if_neg]
        rintro ⟨_, e⟩
        rw [UInt8.add_comm] at e
        exact sum_ne b y hy (255 - b) (by rw [UInt8.sub_add_cancel]) e
      · simp only [List.getElem?_cons_succ, List.getElem?_cons_zero, ne_eq, Option.some.injEq] at hy
        simp only [List.set_cons_succ, List.set_cons_zero, List.cons_append, lenF]
        rw [if_neg]
        rintro ⟨e, _⟩
        exact hy ((byte_sum _ _).1 e).symm
      · simp only [List.getElem?_cons_succ, List.getElem?_cons_zero, ne_eq, Option.some.injEq] at hy
        simp only [List.set_cons_succ, List.set_cons_zero, List.cons_append, lenF]
        rw [if_neg]
        rintro ⟨_, e⟩
        exact hy ((byte_sum _ _).1 e).symm
    unfold takeF
    rw [hl]
    simp
  · -- the head stands
    have hset : (frameOf p).set i y ++ r = hd p.length ++ ((p ++ le4 (crcOf p)).set (i - 4) y ++ r) := by
      have : (frameOf p).set i y = hd p.length ++ (p ++ le4 (crcOf p)).set (i - 4) y := by
        unfold frameOf
        rw [List.set_append_right _ _ (by rw [hd_length]; omega), hd_length]
      rw [this, List.append_assoc]
    have hget : (frameOf p)[i]? = (p ++ le4 (crcOf p))[i - 4]? := by
      unfold frameOf
      rw [List.getElem?_append_right (by rw [hd_length]; omega), hd_length]
    rw [hget] at hy
    have hl : lenF ((frameOf p).set i y ++ r) = (p.length, 0) := by rw [hset]; exact lenF_hd _ _ h
    have hd4 : ((frameOf p).set i y ++ r).drop 4 = (p ++ le4 (crcOf p)).set (i - 4) y ++ r := by rw [hset]; exact List.drop_left' rfl
    unfold takeF
    rw [hl]
    simp only
    rw [if_neg (by simp), if_neg (by rw [List.length_append, List.length_set]; omega), ← List.drop_drop, hd4]
    by_cases hp : i - 4 < p.length
    · have e2 : (p ++ le4 (crcOf p)).set (i - 4) y ++ r = p.set (i - 4) y ++ (le4 (crcOf p) ++ r) := by rw [List.set_append_left _ _ hp, List.append_assoc]
      have hpl : (p.set (i - 4) y).length = p.length := List.length_set ..
      rw [e2, List.take_left' hpl, List.drop_left' hpl, List.take_left' (le4_length _), if_neg]
      · simp
      · intro e
        have := le4_inj (crc_lt _) (crc_lt _) e
        refine crc_put p (i - 4) y hp ?_ this
        rw [List.getElem?_append_left hp, List.getElem?_eq_getElem hp] at hy
        exact fun e => hy (by rw [e])
    · have e2 : (p ++ le4 (crcOf p)).set (i - 4) y ++ r = p ++ ((le4 (crcOf p)).set (i - 4 - p.length) y ++ r) := by rw [List.set_append_right _ _ (by omega), List.append_assoc]
      have hsl : ((le4 (crcOf p)).set (i - 4 - p.length) y).length = 4 := by rw [List.length_set]; rfl
      rw [e2, List.take_left, List.drop_left, List.take_left' hsl, if_neg]
      · simp
      · intro e
        rw [List.getElem?_append_right (by omega)] at hy
        have := congrArg (fun l => l[i - 4 - p.length]?) e
        simp only [List.getElem?_set_self (show i - 4 - p.length < (le4 (crcOf p)).length by rw [le4_length]; omega)] at this
        exact hy this

/-! ### all frames, one behind the other -/
/-- the payloads, where the last frame ends, and the error's number; fuel for so many bytes -/
def allF : Nat → List UInt8 → List (List UInt8) × Nat × Nat
  | 0, _ => ([], 0, 0)
  | f + 1, b => if b.length = 0 then ([], 0, 0) else if (takeF b).e ≠ 0 then ([], 0, (takeF b).e) else
    ((takeF b).p :: (allF f (b.drop (takeF b).n)).1, (takeF b).n + (allF f (b.drop (takeF b).n)).2.1, (allF f (b.drop (takeF b).n)).2.2)
theorem allF_none (f : Nat) : allF f [] = ([], 0, 0) := by cases f <;> rfl
theorem allF_end (f : Nat) (b : List UInt8) (h : 0 < b.length) (he : (takeF b).e ≠ 0) : allF (f + 1) b = ([], 0, (takeF b).e) := by
  unfold allF
  rw [if_neg (by omega), if_pos he]
theorem allF_more (f : Nat) (b : List UInt8) (h : 0 < b.length) (he : (takeF b).e = 0) : allF (f + 1) b = ((takeF b).p :: (allF f (b.drop (takeF b).n)).1, (takeF b).n + (allF f (b.drop (takeF b).n)).2.1, (allF f (b.drop (takeF b).n)).2.2) := by
  conv => lhs; unfold allF
  rw [if_neg (by omega), if_neg (by omega)]
/-- so far: ps, up to at; the rest as of the bytes from there on -/
def Upto (b : List UInt8) (ps : List (List UInt8)) (at_ : Nat) : Prop :=
  at_ ≤ b.length ∧ (ps.map List.length).sum + 8 * ps.length ≤ at_ ∧ ∃ f, b.length - at_ ≤ f ∧ (allF b.length b).1 = ps ++ (allF f (b.drop at_)).1 ∧ (allF b.length b).2.1 = at_ + (allF f (b.drop at_)).2.1 ∧ (allF b.length b).2.2 = (allF f (b.drop at_)).2.2
theorem Upto.start (b : List UInt8) : Upto b [] 0 := ⟨by omega, by simp, b.length, by omega, by simp, by simp, by simp⟩
theorem Upto.stop {b : List UInt8} {ps : List (List UInt8)} {at_ : Nat} (h : Upto b ps at_) (hl : at_ = b.length) : allF b.length b = (ps, at_, 0) := by
  obtain ⟨_, _, f, _, h1, h2, h3⟩ := h
  have hd : b.drop at_ = [] := List.drop_of_length_le (by omega)
  rw [hd, allF_none] at h1 h2 h3
  simp only [List.append_nil, Nat.add_zero] at h1 h2 h3
  exact Prod.ext h1 (Prod.ext h2 h3)
theorem Upto.fault {b : List UInt8} {ps : List (List UInt8)} {at_ : Nat} (h : Upto b ps at_) (hl : at_ < b.length) (he : (takeF (b.drop at_)).e ≠ 0) : allF b.length b = (ps, at_, (takeF (b.drop at_)).e) := by
  obtain ⟨_, _, f, hf, h1, h2, h3⟩ := h
  obtain ⟨f, rfl⟩ : ∃ k, f = k + 1 := ⟨f - 1, by omega⟩
  rw [allF_end f _ (by rw [List.length_drop]; omega) he] at h1 h2 h3
  simp only [List.append_nil, Nat.add_zero] at h1 h2 h3
  exact Prod.ext h1 (Prod.ext h2 h3)
theorem Upto.next {b : List UInt8} {ps : List (List UInt8)} {at_ : Nat} (h : Upto b ps at_) (hl : at_ < b.length) (he : (takeF (b.drop at_)).e = 0) : Upto b (ps ++ [(takeF (b.drop at_)).p]) (at_ + (takeF (b.drop at_)).n) := by
  obtain ⟨h0, hs, f, hf, h1, h2, h3⟩ := h
  obtain ⟨f, rfl⟩ : ∃ k, f = k + 1 := ⟨f - 1, by omega⟩
  obtain ⟨k1, k2, _⟩ := takeF_some _ he
  rw [List.length_drop] at k2
  rw [allF_more f _ (by rw [List.length_drop]; omega) he, List.drop_drop] at h1 h2 h3
  refine ⟨by omega, by simp only [List.map_append, List.map_cons, List.map_nil, List.sum_append, List.sum_cons, List.sum_nil, List.length_append, List.length_cons, List.length_nil]; omega, f, by omega, ?_, ?_, h3⟩
  · rw [h1]
    simp
  · rw [h2]
    simp only [Nat.add_assoc]
end Go.Proofs.Ytgioaapflilhhab
