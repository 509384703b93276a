/- Records, more: what the payloads of all frames tell; how far a reading has come; a record's bytes; texts of bytes. No program is named. -/
import Derived.Test.YtmhgbpgbnfdokaaWalM
import Derived.Test.YtmhgbpgbnfdokaaCore
import Derived.Test.YtmhgbpgbnfdokaaW2
namespace Go.Proofs.Ytmhgbpgbnfdokaa

/-- the records of payloads, up to the first that may not be: the records, how many bytes their frames have, whether all may be -/
def recP : List (List UInt8) → List RecM × Nat × Bool
  | [] => ([], 0, true)
  | p :: ps => if p.headD 0 = 0 then ([], 0, false) else ((p.headD 0, p.tail) :: (recP ps).1, p.length + 8 + (recP ps).2.1, (recP ps).2.2)

theorem readF_all : ∀ (f : Nat) (b : List UInt8), readF f b = if (recP (allF f b).1).2.2 then ((recP (allF f b).1).1, (allF f b).2.1, (allF f b).2.2) else ((recP (allF f b).1).1, (recP (allF f b).1).2.1, 2)
  | 0, b => rfl
  | f + 1, b => by
    unfold readF allF
    by_cases h0 : b.length = 0
    · rw [if_pos h0, if_pos h0]
      rfl
    by_cases he : (takeF b).e ≠ 0
    · rw [if_neg h0, if_neg h0, if_pos he, if_pos he]
      rfl
    rw [if_neg h0, if_neg h0, if_neg he, if_neg he]
    have hn := (takeF_some b (by omega)).1
    have ih := readF_all f (b.drop (takeF b).n)
    simp only
    unfold recP
    by_cases hk : (takeF b).p.headD 0 = 0
    · rw [if_pos hk, if_pos hk]
      rfl
    rw [if_neg hk, if_neg hk, ih]
    simp only
    by_cases hc : (recP (allF f (b.drop (takeF b).n)).1).2.2 = true
    · rw [if_pos hc, if_pos hc]
    · rw [if_neg hc, if_neg hc, hn]
theorem readB_all (b : List UInt8) : readB b = if (recP (allF b.length b).1).2.2 then ((recP (allF b.length b).1).1, (allF b.length b).2.1, (allF b.length b).2.2) else ((recP (allF b.length b).1).1, (recP (allF b.length b).1).2.1, 2) := readF_all _ _
theorem recP_bound : ∀ (f : Nat) (b : List UInt8), (recP (allF f b).1).2.1 ≤ b.length
  | 0, b => Nat.zero_le _
  | f + 1, b => by
    unfold allF
    by_cases h0 : b.length = 0
    · rw [if_pos h0]
      exact Nat.zero_le _
    by_cases he : (takeF b).e ≠ 0
    · rw [if_neg h0, if_pos he]
      exact Nat.zero_le _
    rw [if_neg h0, if_neg he]
    obtain ⟨h1, h2, _⟩ := takeF_some b (by omega)
    have ih := recP_bound f (b.drop (takeF b).n)
    rw [List.length_drop] at ih
    simp only
    unfold recP
    by_cases hk : (takeF b).p.headD 0 = 0
    · rw [if_pos hk]
      exact Nat.zero_le _
    rw [if_neg hk]
    simp only
    omega
theorem allF_count : ∀ (f : Nat) (b : List UInt8), 8 * (allF f b).1.length ≤ b.length
  | 0, b => Nat.zero_le _
  | f + 1, b => by
    unfold allF
    by_cases h0 : b.length = 0
    · rw [if_pos h0]
      exact Nat.zero_le _
    by_cases he : (takeF b).e ≠ 0
    · rw [if_neg h0, if_pos he]
      exact Nat.zero_le _
    rw [if_neg h0, if_neg he]
    obtain ⟨h1, h2, _⟩ := takeF_some b (by omega)
    have ih := allF_count f (b.drop (takeF b).n)
    rw [List.length_drop] at ih
    simp only [List.length_cons]
    omega

/-- so far: k payloads, the records rs, whose frames have so many bytes -/
def RUp (ps : List (List UInt8)) (k : Nat) (rs : List RecM) (n : Nat) : Prop :=
  k ≤ ps.length ∧ rs.length = k ∧ recP ps = (rs ++ (recP (ps.drop k)).1, n + (recP (ps.drop k)).2.1, (recP (ps.drop k)).2.2)
theorem RUp.start (ps : List (List UInt8)) : RUp ps 0 [] 0 := ⟨Nat.zero_le _, rfl, by simp⟩
theorem RUp.stop {ps : List (List UInt8)} {k n : Nat} {rs : List RecM} (h : RUp ps k rs n) (hk : k = ps.length) : recP ps = (rs, n, true) := by
  obtain ⟨_, _, h⟩ := h
  rw [List.drop_of_length_le (by omega)] at h
  simpa [recP] using h
theorem RUp.fault {ps : List (List UInt8)} {k n : Nat} {rs : List RecM} {p : List UInt8} (h : RUp ps k rs n) (hp : ps[k]? = some p) (h0 : p.headD 0 = 0) : recP ps = (rs, n, false) := by
  obtain ⟨_, _, h⟩ := h
  obtain ⟨hlt, rfl⟩ := List.getElem?_eq_some_iff.1 hp
  rw [List.drop_eq_getElem_cons hlt] at h
  rw [h]
  unfold recP
  rw [if_pos h0]
  simp
theorem RUp.next {ps : List (List UInt8)} {k n : Nat} {rs : List RecM} {p : List UInt8} (h : RUp ps k rs n) (hp : ps[k]? = some p) (h0 : p.headD 0 ≠ 0) : RUp ps (k + 1) (rs ++ [(p.headD 0, p.tail)]) (n + (p.length + 8)) ∧ n + (p.length + 8) ≤ (recP ps).2.1 := by
  obtain ⟨_, hl, h⟩ := h
  obtain ⟨hlt, rfl⟩ := List.getElem?_eq_some_iff.1 hp
  rw [List.drop_eq_getElem_cons hlt] at h
  have e : recP (ps[k] :: ps.drop (k + 1)) = ((ps[k].headD 0, ps[k].tail) :: (recP (ps.drop (k + 1))).1, ps[k].length + 8 + (recP (ps.drop (k + 1))).2.1, (recP (ps.drop (k + 1))).2.2) := by
    conv => lhs; unfold recP
    rw [if_neg h0]
  rw [e] at h
  simp only at h
  refine ⟨⟨hlt, by simp [hl], ?_⟩, ?_⟩
  · rw [h]
    simp [Nat.add_assoc]
  · rw [h]
    simp only
    omega

/-- so far, in the document's own way -/
def BUp (b : List UInt8) (rs : List RecM) (n : Nat) : Prop :=
  n ≤ b.length ∧ 9 * rs.length ≤ n ∧ readB b = (rs ++ (readB (b.drop n)).1, n + (readB (b.drop n)).2.1, (readB (b.drop n)).2.2)
theorem BUp.start (b : List UInt8) : BUp b [] 0 := ⟨Nat.zero_le _, Nat.le_refl _, by simp⟩
theorem BUp.stop {b : List UInt8} {rs : List RecM} {n : Nat} (h : BUp b rs n) (hn : n = b.length) : readB b = (rs, n, 0) := by
  obtain ⟨_, _, h⟩ := h
  rw [List.drop_of_length_le (by omega)] at h
  simpa [readB_nil] using h
theorem BUp.fault {b : List UInt8} {rs : List RecM} {n : Nat} (h : BUp b rs n) (hn : n < b.length) (he : (takeF (b.drop n)).e ≠ 0) : readB b = (rs, n, (takeF (b.drop n)).e) := by
  obtain ⟨_, _, h⟩ := h
  rw [readB_open (b.drop n), if_neg (by rw [List.length_drop]; omega), if_pos he] at h
  simpa using h
theorem BUp.form {b : List UInt8} {rs : List RecM} {n : Nat} (h : BUp b rs n) (hn : n < b.length) (he : (takeF (b.drop n)).e = 0) (hk : (takeF (b.drop n)).p.headD 0 = 0) : readB b = (rs, n, 2) := by
  obtain ⟨_, _, h⟩ := h
  rw [readB_open (b.drop n), if_neg (by rw [List.length_drop]; omega), if_neg (by omega), if_pos hk] at h
  simpa using h
theorem BUp.next {b : List UInt8} {rs : List RecM} {n : Nat} (h : BUp b rs n) (hn : n < b.length) (he : (takeF (b.drop n)).e = 0) (hk : (takeF (b.drop n)).p.headD 0 ≠ 0) :
    BUp b (rs ++ [((takeF (b.drop n)).p.headD 0, (takeF (b.drop n)).p.tail)]) (n + (takeF (b.drop n)).n) := by
  obtain ⟨h1, h9, h⟩ := h
  obtain ⟨k1, k2, _⟩ := takeF_some _ he
  rw [List.length_drop] at k2
  rw [readB_open (b.drop n), if_neg (by rw [List.length_drop]; omega), if_neg (by omega), if_neg hk, List.drop_drop] at h
  have hp : 1 ≤ (takeF (b.drop n)).p.length := by
    cases hq : (takeF (b.drop n)).p with
    | nil => rw [hq] at hk; exact absurd rfl hk
    | cons x t => simp
  refine ⟨by omega, by simp only [List.length_append, List.length_cons, List.length_nil]; omega, ?_⟩
  rw [h]
  simp [Nat.add_assoc]

/-- the bytes of a record, or why there are none -/
def bytesF (r : RecM) : List UInt8 × Nat := if r.1 = 0 then ([], 1) else if 4096 ≤ r.2.length then ([], 4) else (recB r, 0)

/-- a text of these bytes -/
def tok (l : List UInt8) : ByteArray := ⟨l.toArray⟩
theorem tok_size (l : List UInt8) : (tok l).size = l.length := by unfold tok; rw [← text_len]
theorem tok_app (l m : List UInt8) : tok l ++ tok m = tok (l ++ m) := text_app l m
theorem tok_list (l : List UInt8) : (tok l).data.toList = l := by unfold tok; simp
end Go.Proofs.Ytmhgbpgbnfdokaa
