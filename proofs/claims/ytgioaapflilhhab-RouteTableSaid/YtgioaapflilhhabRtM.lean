/- Texts in their order, and what the splits of a map say: plain facts. No program is named. -/
import Derived.Test.YtgioaapflilhhabRow
import Derived.Sort.Walk0
import Derived.Lib.Hide
namespace Go.Proofs.Ytgioaapflilhhab
open Go.RowKit

/-- the cells of texts -/
def txs (l : List ByteArray) : List Value := l.map Value.string
@[simp] theorem txs_length (l : List ByteArray) : (txs l).length = l.length := by simp [txs]
theorem txs_append (l m : List ByteArray) : txs (l ++ m) = txs l ++ txs m := by simp [txs]
theorem txs_get (l : List ByteArray) (j : Nat) (hj : j < l.length) : (txs l)[j]? = some (.string l[j]) := by simp [txs, hj]
theorem txs_take (l : List ByteArray) (k : Nat) : txs (l.take k) = (txs l).take k := by simp [txs, List.map_take]
theorem txs_drop (l : List ByteArray) (k : Nat) : txs (l.drop k) = (txs l).drop k := by simp [txs, List.map_drop]
theorem txs_one (l : List ByteArray) : ∀ u ∈ txs l, u.oneCell' = true := by
  intro u hu
  obtain ⟨x, _, rfl⟩ := List.mem_map.1 hu
  rfl
theorem Sees.txt {w : World} {B n : Nat} {A : Option Addr} {l : List ByteArray} (h : Sees w B A n (txs l)) {k : Nat} (hk : k < l.length) : ∃ b off, A = some ⟨b, off, none⟩ ∧ b < B ∧ w.cell? ⟨b, off + k, none⟩ = some (.string l[k]) := by
  have hn : l.length = n := by have := h.1; rwa [txs_length] at this
  obtain ⟨b, off, u, h1, h2, h3, h4⟩ := h.at_ (k := k) (by omega)
  rw [txs_get l k hk] at h3
  injection h3 with h3
  subst h3
  exact ⟨b, off, h1, h2, h4⟩

/-! ### the order -/
def ltS (a b : ByteArray) : Bool := Op.bytesLess a.toList b.toList
theorem ltS_eq (a b : ByteArray) : ltS a b = decide (a.toList < b.toList) := bytesLess_eq _ _
theorem toList_inj {a b : ByteArray} (h : a.toList = b.toList) : a = b := by
  rw [Lib.toList_data, Lib.toList_data] at h
  cases a with
  | mk x => cases b with
    | mk y => exact congrArg ByteArray.mk (Array.toList_inj.1 h)
theorem ltS_irrefl (a : ByteArray) : ltS a a = false := by
  rw [ltS_eq]
  exact decide_eq_false (List.lt_irrefl _)
theorem ltS_trans {a b c : ByteArray} (h : ltS a b = true) (k : ltS b c = true) : ltS a c = true := by
  rw [ltS_eq, decide_eq_true_iff] at *
  exact List.lt_trans h k
theorem ltS_tri {a b : ByteArray} (h : ltS a b = false) (k : ltS b a = false) : a = b := by
  rw [ltS_eq, decide_eq_false_iff_not] at *
  exact toList_inj (List.le_antisymm (List.not_lt.1 k) (List.not_lt.1 h))
theorem ltS_asymm {a b : ByteArray} (h : ltS a b = true) : ltS b a = false := by
  cases k : ltS b a with
  | false => rfl
  | true => have := ltS_trans h k; rw [ltS_irrefl] at this; cases this
theorem ltS_ne {a b : ByteArray} (h : ltS a b = true) : a ≠ b := by
  rintro rfl
  rw [ltS_irrefl] at h
  cases h
/-- not greater -/
def leS (a b : ByteArray) : Bool := ltS a b || a.toList == b.toList
theorem leS_eq (a b : ByteArray) : leS a b = !ltS b a := by
  unfold leS
  cases h : ltS a b with
  | true => rw [ltS_asymm h]; rfl
  | false =>
    cases k : ltS b a with
    | true =>
      have : (a.toList == b.toList) = false := by
        rw [beq_eq_false_iff_ne]
        intro e
        rw [toList_inj e, ltS_irrefl] at k
        cases k
      rw [this]; rfl
    | false =>
      have := ltS_tri h k
      subst this
      simp
theorem eqS (a b : ByteArray) : (a.toList == b.toList) = decide (a = b) := by
  by_cases h : a = b
  · subst h; simp
  · rw [decide_eq_false h, beq_eq_false_iff_ne]
    exact fun e => h (toList_inj e)

/-! ### splits -/
/-- a text that can't be a split -/
def badS (s : ByteArray) : Bool := decide (s.size = 0) || decide (16 < s.size)
theorem badS_false {s : ByteArray} (h : badS s = false) : 0 < s.size ∧ s.size ≤ 16 := by
  simp only [badS, Bool.or_eq_false_iff, decide_eq_false_iff_not] at h
  omega
theorem badS_tr {s : ByteArray} (h : badS s = true) : s.size = 0 ∨ 16 < s.size := by
  simp only [badS, Bool.or_eq_true, decide_eq_true_eq] at h
  exact h
/-- each is greater than the one ahead -/
def Rises (l : List ByteArray) : Prop := ∀ (k : Nat) (h : k + 1 < l.length), ltS l[k] l[k + 1] = true
noncomputable instance (l : List ByteArray) : Decidable (Rises l) := Classical.propDecidable _
noncomputable def rightF (l : List ByteArray) : Int :=
  if 7 < l.length then 7 else if l.any badS then 1 else if Rises l then 0 else 5
theorem rightF_full {l : List ByteArray} (h : 7 < l.length) : rightF l = 7 := if_pos h
theorem rightF_arg {l : List ByteArray} (h : ¬ 7 < l.length) (k : Nat) (hk : k < l.length) (hb : badS l[k] = true) : rightF l = 1 := by
  unfold rightF
  rw [if_neg h, if_pos (List.any_eq_true.2 ⟨_, List.getElem_mem hk, hb⟩)]
theorem good_all {l : List ByteArray} (h : ∀ (k : Nat) (hk : k < l.length), badS l[k] = false) : l.any badS = false := by
  rw [List.any_eq_false]
  intro x hx
  obtain ⟨k, hk, rfl⟩ := List.mem_iff_getElem.1 hx
  simp [h k hk]
theorem rightF_range {l : List ByteArray} (h : ¬ 7 < l.length) (ha : l.any badS = false) (k : Nat) (hk : k + 1 < l.length) (hb : ltS l[k] l[k + 1] = false) : rightF l = 5 := by
  unfold rightF
  rw [if_neg h, if_neg (by rw [ha]; simp), if_neg]
  intro hr
  rw [hr k hk] at hb
  cases hb
theorem rightF_ok {l : List ByteArray} (h : ¬ 7 < l.length) (ha : l.any badS = false) (hr : Rises l) : rightF l = 0 := by
  unfold rightF
  rw [if_neg h, if_neg (by rw [ha]; simp), if_pos hr]
theorem rightF_zero {l : List ByteArray} (h : rightF l = 0) : l.length ≤ 7 ∧ l.any badS = false ∧ Rises l := by
  unfold rightF at h
  by_cases h1 : 7 < l.length
  · rw [if_pos h1] at h; omega
  · rw [if_neg h1] at h
    by_cases h2 : l.any badS = true
    · rw [if_pos h2] at h; omega
    · rw [if_neg h2] at h
      by_cases h3 : Rises l
      · exact ⟨by omega, by simpa using h2, h3⟩
      · rw [if_neg h3] at h; omega
theorem rightF_cases (l : List ByteArray) : rightF l = 0 ∨ rightF l = 1 ∨ rightF l = 5 ∨ rightF l = 7 := by
  unfold rightF
  by_cases h1 : 7 < l.length
  · rw [if_pos h1]; simp
  · rw [if_neg h1]
    by_cases h2 : l.any badS = true
    · rw [if_pos h2]; simp
    · rw [if_neg h2]
      by_cases h3 : Rises l
      · rw [if_pos h3]; simp
      · rw [if_neg h3]; simp
theorem Rises.lt {l : List ByteArray} (h : Rises l) : ∀ (d k : Nat) (hk : k + d + 1 < l.length), ltS l[k] l[k + d + 1] = true
  | 0, k, hk => h k hk
  | d + 1, k, hk => ltS_trans (h.lt d k (by omega)) (h (k + d + 1) (by omega))
theorem Rises.at_lt {l : List ByteArray} (h : Rises l) {i j : Nat} (hij : i < j) (hj : j < l.length) : ltS l[i] l[j] = true := by
  have := h.lt (j - i - 1) i (by omega)
  simpa [show i + (j - i - 1) + 1 = j by omega] using this

/-- how many splits are not greater -/
def ofF (l : List ByteArray) (key : ByteArray) : Nat := l.countP fun s => leS s key
theorem ofF_le (l : List ByteArray) (key : ByteArray) : ofF l key ≤ l.length := List.countP_le_length
/-- among rising ones the first so many are those -/
theorem count_first {l : List ByteArray} {p : ByteArray → Bool} {k : Nat} (hk : k ≤ l.length) (h1 : ∀ (j : Nat) (hj : j < l.length), j < k → p l[j] = true) (h2 : ∀ (j : Nat) (hj : j < l.length), k ≤ j → p l[j] = false) : l.countP p = k := by
  have e : l = l.take k ++ l.drop k := (List.take_append_drop k l).symm
  rw [e, List.countP_append]
  have a1 : (l.take k).countP p = (l.take k).length := by
    rw [List.countP_eq_length]
    intro x hx
    obtain ⟨j, hj, rfl⟩ := List.mem_iff_getElem.1 hx
    rw [List.length_take] at hj
    rw [List.getElem_take]
    exact h1 j (by omega) (by omega)
  have a2 : (l.drop k).countP p = 0 := by
    rw [List.countP_eq_zero]
    intro x hx
    obtain ⟨j, hj, rfl⟩ := List.mem_iff_getElem.1 hx
    rw [List.length_drop] at hj
    rw [List.getElem_drop]
    simp [h2 (k + j) (by omega) (by omega)]
  rw [a1, a2, List.length_take]
  omega
theorem leS_mono {a b k : ByteArray} (h : ltS a b = true) (hb : leS b k = true) : leS a k = true := by
  rw [leS_eq] at *
  cases e : ltS k a with
  | false => rfl
  | true => rw [ltS_trans e h] at hb; cases hb
theorem ltS_leS {a b c : ByteArray} (h : ltS a b = true) (k : leS b c = true) : ltS a c = true := by
  rw [leS_eq] at k
  cases e : ltS a c with
  | true => rfl
  | false =>
    cases e2 : ltS b c with
    | true => rw [ltS_trans h e2] at e; cases e
    | false =>
      have := ltS_tri e2 (by simpa using k)
      subst this
      rw [h] at e; cases e
/-- where what holds of one holds of all ahead, just the first so many have it -/
theorem first_at {l : List ByteArray} {p : ByteArray → Bool} (hm : ∀ (i j : Nat) (hi : i < l.length) (hj : j < l.length), i < j → p l[j] = true → p l[i] = true) (j : Nat) (hj : j < l.length) : p l[j] = decide (j < l.countP p) := by
  have hex : ∃ k, k ≤ l.length ∧ (∀ (j : Nat) (hj : j < l.length), j < k → p l[j] = true) ∧ (∀ (j : Nat) (hj : j < l.length), k ≤ j → p l[j] = false) := by
    clear hj
    have : ∀ n, n ≤ l.length → ∃ k, k ≤ n ∧ (∀ (j : Nat) (hj : j < l.length), j < k → p l[j] = true) ∧ (∀ (j : Nat) (hj : j < l.length), k ≤ j → j < n → p l[j] = false) := by
      intro n
      induction n with
      | zero => intro _; exact ⟨0, Nat.le_refl _, fun _ _ h => absurd h (by omega), fun _ _ _ h => absurd h (by omega)⟩
      | succ n ih =>
        intro hn
        obtain ⟨k, h1, h2, h3⟩ := ih (by omega)
        by_cases hb : p (l[n]'(by omega)) = true
        · refine ⟨n + 1, Nat.le_refl _, fun j hj hjn => ?_, fun j _ h4 h5 => absurd h5 (by omega)⟩
          by_cases hjn' : j = n
          · subst hjn'; exact hb
          · exact hm j n hj (by omega) (by omega) hb
        · refine ⟨k, by omega, h2, fun j hj h4 h5 => ?_⟩
          by_cases hjn' : j = n
          · subst hjn'; simpa using hb
          · exact h3 j hj h4 (by omega)
    obtain ⟨k, h1, h2, h3⟩ := this l.length (Nat.le_refl _)
    exact ⟨k, h1, h2, fun j hj h4 => h3 j hj h4 hj⟩
  obtain ⟨k, h1, h2, h3⟩ := hex
  have hk : l.countP p = k := count_first h1 h2 h3
  rw [hk]
  by_cases hjk : j < k
  · rw [h2 j hj hjk, decide_eq_true hjk]
  · rw [h3 j hj (by omega), decide_eq_false hjk]
/-- the first ones are not greater than the key, the others are -/
theorem ofF_at {l : List ByteArray} (h : Rises l) (key : ByteArray) (j : Nat) (hj : j < l.length) : leS l[j] key = decide (j < ofF l key) :=
  first_at (p := fun s => leS s key) (fun _ _ _ hj hij hp => leS_mono (h.at_lt hij hj) hp) j hj
/-- how many are below the key -/
def lowN (l : List ByteArray) (key : ByteArray) : Nat := l.countP fun s => ltS s key
theorem lowN_le (l : List ByteArray) (key : ByteArray) : lowN l key ≤ l.length := List.countP_le_length
theorem lowN_at {l : List ByteArray} (h : Rises l) (key : ByteArray) (j : Nat) (hj : j < l.length) : ltS l[j] key = decide (j < lowN l key) :=
  first_at (p := fun s => ltS s key) (fun _ _ _ hj hij hp => ltS_trans (h.at_lt hij hj) hp) j hj
/-- is it a split? -/
def hasS (l : List ByteArray) (key : ByteArray) : Bool := l.any fun s => s.toList == key.toList
theorem hasS_iff (l : List ByteArray) (key : ByteArray) : hasS l key = true ↔ key ∈ l := by
  unfold hasS
  rw [List.any_eq_true]
  constructor
  · rintro ⟨x, hx, h⟩
    rw [beq_iff_eq] at h
    rwa [← toList_inj h]
  · exact fun h => ⟨key, h, by simp⟩
/-- the place behind: one more if the key is a split -/
theorem ofF_low {l : List ByteArray} (h : Rises l) (key : ByteArray) : ofF l key = lowN l key + if hasS l key = true then 1 else 0 := by
  by_cases hm' : hasS l key = true
  · rw [if_pos hm']
    have hm := (hasS_iff l key).1 hm'
    obtain ⟨i, hi, he⟩ := List.mem_iff_getElem.1 hm
    have h1 : lowN l key = i := by
      have a := lowN_at h key i hi
      rw [he, ltS_irrefl] at a
      have a' : ¬ i < lowN l key := of_decide_eq_false a.symm
      rcases Nat.lt_or_ge (lowN l key) i with hlt | hge
      · have b := lowN_at h key (lowN l key) (by omega)
        have c := h.at_lt hlt hi
        rw [he] at c
        rw [c] at b
        have := of_decide_eq_true b.symm
        omega
      · omega
    have h2 : ofF l key = i + 1 := by
      refine count_first (by omega) (fun j hj hji => ?_) (fun j hj hji => ?_)
      · show leS l[j] key = true
        by_cases e : j = i
        · subst e; rw [he, leS_eq, ltS_irrefl]; rfl
        · rw [leS_eq, ← he, ltS_asymm (h.at_lt (i := j) (j := i) (by omega) hi)]; rfl
      · show leS l[j] key = false
        rw [leS_eq, ← he, h.at_lt (i := i) (j := j) (by omega) hj]; rfl
    omega
  · rw [if_neg hm', Nat.add_zero]
    have hm : ¬ key ∈ l := fun h => hm' ((hasS_iff l key).2 h)
    refine List.countP_congr fun s hs => ⟨fun h => ?_, fun h => ?_⟩
    · cases e : ltS s key with
      | true => rfl
      | false =>
        rw [leS_eq] at h
        have := ltS_tri e (by simpa using h)
        subst this
        exact absurd hs hm
    · rw [leS_eq, ltS_asymm h]; rfl
theorem lowN_mem {l : List ByteArray} (h : Rises l) {key : ByteArray} (hm : key ∈ l) : ∃ hi : lowN l key < l.length, l[lowN l key] = key := by
  obtain ⟨i, hi, he⟩ := List.mem_iff_getElem.1 hm
  have h1 : lowN l key = i := by
    have a := lowN_at h key i hi
    rw [he, ltS_irrefl] at a
    have a' : ¬ i < lowN l key := of_decide_eq_false a.symm
    rcases Nat.lt_or_ge (lowN l key) i with hlt | hge
    · have b := lowN_at h key (lowN l key) (by omega)
      have c := h.at_lt hlt hi
      rw [he] at c
      rw [c] at b
      have := of_decide_eq_true b.symm
      omega
    · omega
  exact ⟨by omega, by simp only [h1]; exact he⟩
end Go.Proofs.Ytgioaapflilhhab
