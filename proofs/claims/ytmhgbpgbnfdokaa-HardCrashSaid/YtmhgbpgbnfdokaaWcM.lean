/- For WalCrash: what a crash leaves of records, as lists; rows of records as sources of an append; 'rows[:k]'. -/
import Derived.Test.YtmhgbpgbnfdokaaRec5
import Derived.Test.YtmhgbpgbnfdokaaOpen5
import Derived.Deep.Upon
namespace Go.Proofs.Ytmhgbpgbnfdokaa
open Go.RowKit

theorem recsB_snoc (rs : List RecM) (r : RecM) : recsB (rs ++ [r]) = recsB rs ++ recB r := by rw [recsB_append, recsB_cons, recsB_nil, List.append_nil]
theorem turn_app (l m : List UInt8) (i : Nat) (y : UInt8) : turn (l ++ m) (l.length + i) y = l ++ turn m i y := by
  unfold turn
  rw [List.set_append_right _ _ (by omega), show l.length + i - l.length = i from by omega]
  congr 2
  rw [List.getD_eq_getElem?_getD, List.getD_eq_getElem?_getD, List.getElem?_append_right (by omega), show l.length + i - l.length = i from by omega]
theorem min_nat (z : Int) (n : Nat) : ∃ j : Nat, min (max z 0) (n : Int) = j := ⟨(min (max z 0) (n : Int)).toNat, by omega⟩
theorem crash_app (sy tl : List UInt8) (kp at_ : Int) (y : UInt8) (j : Nat) (h : min (max kp 0) (tl.length : Int) = j) :
    crashF (sy ++ tl) sy.length kp at_ y = sy ++ (if 0 ≤ at_ ∧ at_ < (j : Int) then turn (tl.take j) at_.toNat y else tl.take j) := by
  have e1 : (((sy ++ tl).length : Nat) : Int) - (sy.length : Int) = (tl.length : Int) := by rw [List.length_append]; omega
  have e2 : (sy ++ tl).take (sy.length + j) = sy ++ tl.take j := by rw [List.take_append, List.take_of_length_le (by omega), show sy.length + j - sy.length = j from by omega]
  unfold crashF
  rw [e1, h]
  simp only [Int.toNat_natCast]
  rw [e2]
  split
  · rw [turn_app]
  · rfl
/-- what is read behind a crash: all that was synced, and some of the first ones of the others; up to where -/
theorem crash_reads (ms1 ms2 : List RecM) (h1 : ∀ r ∈ ms1, RightM r) (h2 : ∀ r ∈ ms2, RightM r) (kp at_ : Int) (y : UInt8) :
    ∃ k e, k ≤ ms2.length ∧ (readB (crashF (recsB ms1 ++ recsB ms2) (recsB ms1).length kp at_ y)).1 = (ms1 ++ ms2).take (ms1.length + k) ∧
      (readB (crashF (recsB ms1 ++ recsB ms2) (recsB ms1).length kp at_ y)).2.1 = e ∧ (recsB ms1).length ≤ e := by
  obtain ⟨j, hj⟩ := min_nat kp (recsB ms2).length
  rw [crash_app _ _ _ _ _ j hj, readB_recs _ ms1 h1]
  have ht : ∃ k, k ≤ ms2.length ∧ (readB (if 0 ≤ at_ ∧ at_ < (j : Int) then turn ((recsB ms2).take j) at_.toNat y else (recsB ms2).take j)).1 = ms2.take k := by
    split
    · exact readB_crash ms2 h2 j at_.toNat _
    · have := readB_crash ms2 h2 j ((recsB ms2).take j).length 0
      rwa [List.set_eq_of_length_le (Nat.le_refl _)] at this
  obtain ⟨k, hk, ht⟩ := ht
  have e : (ms1 ++ ms2).take (ms1.length + k) = ms1 ++ ms2.take k := by rw [List.take_append, List.take_of_length_le (Nat.le_add_right _ _), Nat.add_sub_cancel_left]
  refine ⟨k, _, hk, ?_, rfl, Nat.le_add_right _ _⟩
  simp only
  rw [ht, e]
theorem crash_len (all : List UInt8) (s : Nat) (kp at_ : Int) (y : UInt8) : (crashF all s kp at_ y).length ≤ all.length := by
  unfold crashF
  split
  · rw [turn_length, List.length_take]; omega
  · rw [List.length_take]; omega

theorem tcs_take (rs : List RecM) (k : Nat) : (tcs rs).take (k * 2) = tcs (rs.take k) := by
  induction rs generalizing k with
  | nil => simp [tcs]
  | cons r rs ih =>
    cases k with
    | zero => simp [tcs]
    | succ k =>
      have e : tcs (r :: rs) = cb r.1 :: .string (tok r.2) :: tcs rs := rfl
      rw [e, show (k + 1) * 2 = k * 2 + 1 + 1 from by omega, List.take_succ_cons, List.take_succ_cons, ih]
      rfl

/-- append onto a row of the call's own, whatever slice of elements of so many cells is appended -/
theorem append_rows {P : Program} (w : World) (base : Nat) (t ty e : TypeId) (i : TypeInfo) (z : Value) (size bytes : Nat) (ht : P.underlying t = some (.slice e)) (hi : P.info? e = some i) (hz : i.zero = some z)
    (hsize : i.size = size) (hby : i.bytes = bytes) (hzs : z.cells.size = size) (hsz : 0 < size)
    (v : Value) (n : Nat) (xs : List Value) (hown : w.ownsRow base e size v n xs)
    (B : Nat) (A : Option Addr) (m c : Nat) (news : List Value) (hr : Sees w B A (m * size) news) (h1 : ∀ u ∈ news, u.oneCell' = true)
    (h63 : n + m ≤ maxLen) (hbytes : (n + m) * bytes ≤ 140737488355328) (hbase : base ≤ w.heap.size) :
    ∃ v' w', (Builtin.append_ #[t, t] ty #[v, .slice A m c]).run P w = .ok v' w' ∧ w'.ownsRow base e size v' (n + m) (xs ++ news) ∧ w.grownBy w' v.ownBlock := by
  rcases Nat.eq_zero_or_pos m with hm | hm
  · subst hm
    have hn : news = [] := List.eq_nil_of_length_eq_zero (by have := hr.1; omega)
    subst hn
    obtain ⟨A0, c0, rfl, hle, _⟩ := own_form2 hown
    have hsrc : Src P i.size t (.slice A 0 c) 0 [] w := by
      cases A with
      | none => exact Src.ofNil w ht c
      | some a => exact Src.ofSlice w ht a 0 c [] (by simp) (fun j u hu => by simp at hu) (fun _ h => by cases h)
    exact ⟨_, w, run_append_nothing w t t ty e i ht hi A0 n c0 hle _ hsrc, by simpa using hown, gb_refl _ _⟩
  · obtain ⟨b, off, rfl, _, hc⟩ := hr.2 (Nat.mul_pos hm hsz)
    obtain ⟨v', w', hrun, h2, h3, _, _⟩ := run_append_own_at (P := P) w base t ty e i z size bytes ht hi hz hsize hby hzs hsz v n xs hown ⟨b, off, none⟩ m c news hr.1
      (fun j u hu => by rw [Addr.add_lit]; exact hc j u hu) h1 h63 hbytes hbase
    exact ⟨v', w', hrun, h2, h3⟩
theorem wpList_append_rows {P : Program} (w : World) {ops : Array Oper} {rest : List Oper} {o : Oper} {a : Act} {Q : Exit → Act → World → Prop} (hgd : o.guard = none) (s x : Operand) (t : TypeId)
    (ho : o.op = .call { callee := .builtin .append, args := #[s, x], argTypes := #[t, t] })
    (base : Nat) (e : TypeId) (i : TypeInfo) (z : Value) (size bytes : Nat) (ht : P.underlying t = some (.slice e)) (hi : P.info? e = some i) (hz : i.zero = some z)
    (hsize : i.size = size) (hby : i.bytes = bytes) (hzs : z.cells.size = size) (hsz : 0 < size)
    (v : Value) (n : Nat) (xs : List Value) (hs : a.eval s = v) (hown : w.ownsRow base e size v n xs)
    (B : Nat) (A : Option Addr) (m c : Nat) (news : List Value) (hx : a.eval x = .slice A m c) (hr : Sees w B A (m * size) news) (h1 : ∀ u ∈ news, u.oneCell' = true)
    (h63 : n + m ≤ maxLen) (hbytes : (n + m) * bytes ≤ 140737488355328) (hbase : base ≤ w.heap.size)
    (h : ∀ v' w', w'.ownsRow base e size v' (n + m) (xs ++ news) → w.grownBy w' v.ownBlock → wpList P ops Q rest (a.put o.dst v') w') : wpList P ops Q (o :: rest) a w := by
  obtain ⟨v', w', hrun, h2, h3⟩ := append_rows (P := P) w base t o.type e i z size bytes ht hi hz hsize hby hzs hsz v n xs hown B A m c news hr h1 h63 hbytes hbase
  exact Lib.wpList_append_run w hgd s x t t ho v _ hs hx v' w' hrun (h v' w' h2 h3)

/-- 'rows[:k]' -/
theorem rows_upto (A : Option Addr) (n c : Nat) (k : Nat) (hk : k ≤ c) (W : World) :
    (Instr.slice 35 (.slice A n c) none (some (.int .i64 (k : Int))) none).run Try.prog W = .ok (.slice A k c) W := by
  have h := run_slice_h (P := Try.prog) (w := W) 35 A n c (by kernel_rfl) .i64 (k : Int) (by omega) (by omega)
  have hs : (sizeOf (Try.prog.elem 35)).run Try.prog W = .ok 2 W := by go_simp
  rw [h, hs]
  simp only [Result.andThen, sliced, Nat.zero_mul, add_zero_map, ite_self, Int.toNat_natCast, Nat.sub_zero]
theorem Keeps.of_grown {w w' : World} {g : Nat} {cs : Array Value} (hb : Blk w g 101 cs) (h : w.grownBy w' (some g)) : Keeps w w' := by
  intro k cs' t fr hk h1 h2
  refine h.block k (Array.getElem?_eq_some_iff.1 hk).1 (fun e => ?_)
  injection e with e
  subst e
  unfold Blk at hb
  rw [hb] at hk
  injection hk with hk
  injection hk with _ ht
  exact h2 ht.symm
section
variable {w w' : World} {base : Nat} {e : TypeId} {size n : Nat} {v : Value} {xs : List Value}
/-- behind an append onto a row blocks of other types are as they were -/
theorem own_far (ho : w.ownsRow base e size v n xs) (hg : w.grownBy w' v.ownBlock) {k : Nat} {t : TypeId} {cs : Array Value} (hb : Blk w k t cs) (hne : t ≠ e) : Blk w' k t cs := by
  refine hb.grown hg (fun h => ?_)
  rcases ho.2 with ⟨rfl, _⟩ | ⟨q, cap, cur, rfl, _, hq, _⟩
  · simp [Value.ownBlock] at h
  · simp only [Value.ownBlock, Option.some.injEq] at h
    subst h
    unfold Blk at hb
    rw [hb] at hq
    injection hq with hq
    injection hq with _ ht
    exact hne ht
theorem own_far_dsk (ho : w.ownsRow base e size v n xs) (hg : w.grownBy w' v.ownBlock) (h1 : 5 ≠ e) (h2 : 101 ≠ e) {b g s : Nat} {all : List UInt8} (h : Dsk w b g all s) : Dsk w' b g all s := by
  obtain ⟨A, c, hb, hg0, hf, hs⟩ := h
  refine ⟨A, c, own_far ho hg hb h2, hg0, ⟨hf.1, hf.2.1, hf.2.2.1, fun hc => ?_⟩, hs⟩
  obtain ⟨q, off, cur, hA, hq0, hq, hx⟩ := hf.2.2.2 hc
  exact ⟨q, off, cur, hA, hq0, own_far ho hg hq h1, hx⟩
theorem own_far_own (ho : w.ownsRow base e size v n xs) (hg : w.grownBy w' v.ownBlock) {b2 : Nat} {e2 : TypeId} {sz2 n2 : Nat} {v2 : Value} {ys : List Value} (h : w.ownsRow b2 e2 sz2 v2 n2 ys) (hne : e2 ≠ e) : w'.ownsRow b2 e2 sz2 v2 n2 ys := by
  refine ⟨h.1, ?_⟩
  rcases h.2 with hn | ⟨q, cap, cur, rfl, hb, hq, rest⟩
  · exact .inl hn
  · exact .inr ⟨q, cap, cur, rfl, hb, own_far ho hg hq hne, rest⟩
end
/-- a row from later blocks is as it was -/
theorem own_past {w w' : World} {base g : Nat} {e : TypeId} {size n : Nat} {v : Value} {xs : List Value} (h : w.ownsRow base e size v n xs) (hg : w.grownBy w' (some g)) (hlt : g < base) : w'.ownsRow base e size v n xs := by
  refine h.kept hg ?_
  cases hv : v.ownBlock with
  | none => exact .inl rfl
  | some k =>
    refine .inr (fun e => ?_)
    injection e with e
    have := (h.lt k hv).1
    omega
theorem toks_take {w : World} {base n c : Nat} {A : Option Addr} {ms : List RecM} (h : w.ownsRow base 46 2 (.slice A n c) n (tcs ms)) (hn : ms.length = n) {k : Nat} (hk : k ≤ n) : Toks w w.heap.size A (ms.take k) := by
  have h1 := (sees_own h).take (k := k * 2) (by omega)
  rw [tcs_take] at h1
  have e : (ms.take k).length = k := by rw [List.length_take]; omega
  unfold Toks
  rw [e]
  exact h1
end Go.Proofs.Ytmhgbpgbnfdokaa
