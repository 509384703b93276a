/- LogTwice: entries that are put twice are put once; a part of them changes nothing. For every input, without a condition. -/
import Derived.Test.YtcmeindekbjefaaRows
import Derived.Test.YtcmeindekbjefaaFix7
import Derived.Test.YtcmeindekbjefaaOpen7
import Derived.ProofKit
import Derived.OpenShut
namespace Go.Proofs.Ytcmeindekbjefaa.logTwice
open Go.ChangeShapes Go.WideShapes Go.ChangeAt Go.RowKit
set_option linter.unusedVariables false

theorem own : ownKnob Try.prog.godebug = none := by kernel_rfl
theorem laidOut : laidOutB Try.prog = true := by kernel_rfl

theorem fall_take (t : Int) (l : List Ent) (k : Nat) (h : fallF t l = false) : fallF t (l.take k) = false := by
  induction l generalizing t k with
  | nil => simp [fallF]
  | cons e l ih =>
    cases k with
    | zero => simp [fallF]
    | succ k =>
      rw [List.take_succ_cons]
      unfold fallF at h ⊢
      rw [Bool.or_eq_false_iff] at h ⊢
      exact ⟨h.1, ih e.t k h.2⟩
theorem there_self (l : List Ent) (k : Nat) : thereF l 0 (l.take k) = (l.take k).length :=
  thereF_eq _ _ _ _ (Nat.le_refl _) (fun j hj _ => by
    have h1 : j < l.length := by rw [List.length_take] at hj; omega
    rw [show (0 : Int) + 1 + (j : Int) = (j : Int) + 1 from by omega, termF_at h1]
    simp) (fun h => absurd h (Nat.lt_irrefl _))
theorem put_first (l : List Ent) (hl : l.length ≤ 60) : putF [] 0 0 l = if fallF 0 l then ([], 0, 5) else (l, ((min l.length 1 : Nat) : Int), 0) := by
  have h0 : fitsF [] 0 0 l = if fallF 0 l then 5 else 0 := by
    unfold fitsF
    rw [termF_zero]
    rw [if_neg (by simp), if_neg (by simp)]
  unfold putF
  rw [h0]
  by_cases hf : fallF 0 l = true
  · rw [if_pos hf, if_pos (by omega), if_pos hf]
  · rw [if_neg hf, if_neg (by omega), if_neg hf]
    have ht : thereF [] 0 l = 0 := by
      cases l with
      | nil => rfl
      | cons e l => unfold thereF; rw [termF_out (.inr (by simp)), if_neg (by simp)]
    rw [ht]
    cases l with
    | nil => rfl
    | cons e l =>
      rw [if_neg (by simp), if_neg (by simp only [List.length_cons] at hl ⊢; omega)]
      simp
theorem put_again (l : List Ent) (k : Nat) (hf : fallF 0 l = false) : putF l 0 0 (l.take k) = (l, 0, 0) := by
  have h0 : fitsF l 0 0 (l.take k) = 0 := by
    unfold fitsF
    rw [termF_zero, if_neg (by simp), if_neg (by simp), fall_take 0 l k hf]
    rfl
  unfold putF
  rw [h0, if_neg (by omega), if_pos (there_self l k)]

set_option maxRecDepth 100000 in
set_option maxHeartbeats 1600000 in
theorem walk (A : Option Addr) (n c : Nat) (l : List Ent) (k : Nat) (w : World) (hs : Ents w w.heap.size A l) (hl : l.length = n) (hc : n ≤ c) (hm : c ≤ maxLen) (hk : k < 256) :
    Calls Try.prog 8 #[.slice A n c, .int .u8 (k : Int)] w fun e w' => e = .returned (.bool true) ∧ Below w.heap.size w w' := by
  have hm9 : c ≤ 9223372036854775807 := hm
  by_cases hz1 : 60 < n
  · have hz2 : (60 : Int) < (n : Int) := by omega
    clear hs hl hm
    go_enter Try.func8, Try.ntmps8
    go_wp2_with fail
    refine (fixed7_any _).mono ?_
    rintro e w1 ⟨rfl, hb1⟩
    go_wp2_with fail
    go_ret
    exact ⟨rfl, hb1⟩
  · have hz2 : ¬ (60 : Int) < (n : Int) := by omega
    have HL := Lib.hid hl
    have HN := Lib.hid (show n ≤ 60 by omega)
    have hpf := put_first l (by omega)
    have HNE := Lib.hid (show ∀ g, w.heap.size ≤ g → 0 < n → ∀ a, A = some a → a.block ≠ g from fun g hg h0 a ha => by
      obtain ⟨b, off, hA, hb, _⟩ := hs.at_ (j := 0) (by omega)
      rw [hA] at ha
      injection ha with ha
      subst ha
      simp only
      omega)
    have HS := Lib.hid hs
    have HC := Lib.hid hc
    rw [hl] at hpf
    clear hs hl hm hz1 hm9 hc
    by_cases hf : fallF 0 l = true
    · rw [if_pos hf] at hpf
      have HPF := Lib.hid hpf
      clear hpf hf
      go_enter Try.func8, Try.ntmps8
      go_wp2_with fail
      refine (fixed7_any _).mono ?_
      rintro e w1 ⟨rfl, hb1⟩
      go_wp2_with fail
      refine (lNew_any none 0 0 [] w1 (Ents.nil _ _ _) rfl (by omega)).mono ?_
      rintro e w2 ⟨g, f, rfl, hl2, hb2⟩
      have hl2 := hl2.mono hb1.size
      have hb2 := bthen hb1 hb2
      clear hb1
      go_wp2_with fail
      refine (lPut_any w.heap.size g f [] 0 0 A n c l w2 hl2 (by simp) (Sees.on HS.out hb2) HL.out HC.out (by have := HN.out; omega) (HNE.out g hl2.base_le) hb2.size).mono ?_
      rintro e w3 ⟨rfl, hm3⟩
      rw [HPF.out] at hm3 ⊢
      have hb3 := hb2.trans (hm3.below hl2 (Nat.le_refl _) hb2.size)
      obtain ⟨f3, hl3, _⟩ := hm3
      simp only at hl3
      clear hl2 hb2
      go_wp2_with fail
      refine (lAll_any w.heap.size g f3 [] w3 hl3 (by simp)).mono ?_
      rintro e w4 ⟨A4, c4, rfl, _, hb4⟩
      have hb5 := bthen hb3 hb4
      go_wp2_with fail
      go_ret
      exact ⟨rfl, hb5⟩
    · rw [if_neg hf] at hpf
      have hf' : fallF 0 l = false := by simpa using hf
      have HPF := Lib.hid hpf
      have HFF := Lib.hid hf'
      have HMN := Lib.hid (show (if 1 < (n : Int) then 1 else (n : Int)) = ((min n 1 : Nat) : Int) by split <;> omega)
      obtain ⟨r, hr⟩ : ∃ r : Nat, r = k % (n + 1) := ⟨_, rfl⟩
      have hrn : r ≤ n := by have := Nat.mod_lt k (show 0 < n + 1 by omega); omega
      have hrm : (k : Int) % ((n : Int) + 1) = (r : Int) := by rw [hr]; push_cast; rfl
      have hsl := fun W => ents_upto A n c r (r : Int) rfl (Nat.le_trans hrn HC.out) W
      have HRN := Lib.hid hrn
      clear hr hrn
      clear hpf hf hf'
      go_enter Try.func8, Try.ntmps8
      go_wp2_with fail
      refine (fixed7_any _).mono ?_
      rintro e w1 ⟨rfl, hb1⟩
      go_wp2_with fail
      refine (lNew_any none 0 0 [] w1 (Ents.nil _ _ _) rfl (by omega)).mono ?_
      rintro e w2 ⟨g, f, rfl, hl2, hb2⟩
      have hl2 := hl2.mono hb1.size
      have hb2 := bthen hb1 hb2
      clear hb1
      go_wp2_with fail
      refine (lPut_any w.heap.size g f [] 0 0 A n c l w2 hl2 (by simp) (Sees.on HS.out hb2) HL.out HC.out (by have := HN.out; omega) (HNE.out g hl2.base_le) hb2.size).mono ?_
      rintro e w3 ⟨rfl, hm3⟩
      rw [HPF.out] at hm3 ⊢
      have hb3 := hb2.trans (hm3.below hl2 (Nat.le_refl _) hb2.size)
      obtain ⟨f3, hl3, _⟩ := hm3
      simp only at hl3
      clear hl2 hb2
      generalize ((min n 1 : Nat) : Int) = q at *
      go_wp2_with fail
      refine (lPut_any w.heap.size g f3 l 0 0 A n c l w3 hl3 (by have := HL.out; have := HN.out; omega) (Sees.keep HS.out (fun _ hp => hb3.cell hp) |>.more hb3.size) HL.out HC.out (by have := HN.out; omega) (HNE.out g hl3.base_le) hb3.size).mono ?_
      rintro e w4 ⟨rfl, hm4⟩
      have hpa := put_again l l.length HFF.out
      rw [List.take_length] at hpa
      rw [hpa] at hm4 ⊢
      have hb4 := hb3.trans (hm4.below hl3 (Nat.le_refl _) hb3.size)
      obtain ⟨f4, hl4, _⟩ := hm4
      simp only at hl4
      clear hl3 hb3 hpa
      go_wp2_with fail
      have htl : (l.take r).length = r := by rw [List.length_take]; have := HRN.out; have := HL.out; omega
      refine (lPut_any w.heap.size g f4 l 0 0 A r c (l.take r) w4 hl4 (by have := HL.out; have := HN.out; omega) (Ents.take (Sees.keep HS.out (fun _ hp => hb4.cell hp) |>.more hb4.size) (by have := HRN.out; have := HL.out; omega)) htl (Nat.le_trans HRN.out HC.out) (by have := HN.out; have := HRN.out; omega) (fun h => HNE.out g hl4.base_le (Nat.lt_of_lt_of_le h HRN.out)) hb4.size).mono ?_
      rintro e w5 ⟨rfl, hm5⟩
      rw [put_again l r HFF.out] at hm5 ⊢
      have hb5 := hb4.trans (hm5.below hl4 (Nat.le_refl _) hb4.size)
      obtain ⟨f5, hl5, _⟩ := hm5
      simp only at hl5
      clear hl4 hb4 htl
      go_wp2_with fail
      refine (lLast_any w.heap.size g f5 l w5 hl5 (by have := HL.out; have := HN.out; omega)).mono ?_
      rintro e w6 ⟨rfl, rfl⟩
      rw [HL.out]
      have hmn := HMN.out
      clear hl5
      go_wp2_with fail
      go_ret
      exact ⟨rfl, hb5⟩

set_option maxRecDepth 100000 in
theorem lifted (os : Os) (started : os.Started) (H : Type) (enc : TypeId × Value → H) :
    ReturnsInHanded {} Try.checked os 8 .any (Rows.logTwiceSpec.pre6 enc Try.prog Try.f8 Rows.logTwiceRow.domain false) (Rows.logTwiceSpec.post enc Try.prog Try.f8 false true false false) := by
  refine returnsInHanded_of_change (C := Try.checked) own started (by kernel_rfl) Try.func8
    (ChangeSpec.witness6 (enc := enc) (C := Try.checked) false ⟨#[], #[.slice none 0 0, .int .u8 0], []⟩ 8 (by kernel_rfl) (by kernel_rfl) (by kernel_rfl) (by kernel_rfl)) ?_
  intro W base args ds gs before hval0 hW hcnd _
  have hval : ∀ (j : Nat) t v, Try.f8.params[j]? = some t → args[j]? = some v → Value.okWide Try.prog W .any base t v := hval0
  have hW' := hW
  obtain ⟨p, q, hA0, hV, rfl, hfz, hnd⟩ := hW
  have hA : DataW.TrodAll enc Try.prog W 0 (fun _ => true) true Try.f8.params.toList args.toList ds p := hA0
  rw [Try.params8] at hA hval
  obtain ⟨v0, vs0, d0, ds0, p0, q0, hargs, rfl, rfl, h0, r0⟩ := trodAll_cons hA
  obtain ⟨v1, vs1, d1, ds1, p1, q1, rfl, rfl, rfl, h1, r1⟩ := trodAll_cons r0
  obtain ⟨rfl, rfl, rfl⟩ := trodAll_nil r1
  obtain rfl : args = #[v0, v1] := by cases args; simp_all
  obtain ⟨rfl, rfl⟩ := trodVars_none hV
  obtain ⟨a0, len0, cap0, rfl⟩ := okWide_slice Try.underlying23 (hval 0 23 v0 rfl rfl)
  have k0 := h0
  have lt0 : ∀ x ∈ p0, x.block < W.heap.size := by obtain ⟨m, hm⟩ := k0; exact DataW.trod_lt m _ _ _ hm
  obtain ⟨m0, h0⟩ := h0
  obtain ⟨hl0, hc0, l, hll, hs⟩ := open_ents h0
  obtain ⟨a1, rfl, rfl, rfl, w1⟩ := open_int Try.underlying5 (hval 1 5 v1 rfl rfl) h1
  obtain ⟨n1, hn1⟩ : ∃ n : Nat, a1 = n := ⟨a1.toNat, by have := bounds_u8 w1; omega⟩
  subst hn1
  have hb1 : n1 < 256 := by have := bounds_u8 w1; omega
  clear hA0 hval0
  simp only [List.append_nil] at hW'
  refine (walk a0 len0 cap0 l n1 W hs hll hl0 hc0 hb1).mono fun e W' ⟨he, bel⟩ => ?_
  subst he
  exact ⟨_, rfl, _, _, _, [], _, [], hW', trodAll_mk1 (shut_bool Try.underlying4 _), (trodAll_cons_mk (Below.trod laidOut (by kernel_rfl) (of_decide_eq_true (by kernel_rfl)) k0 bel lt0) (trodAll_cons_mk (shut_int Try.underlying5 w1) trodAll_mk0)), rfl, bel.frame _, fun h => by cases h⟩

theorem over : Rows.logTwiceRow.holds Try.pinned (OpenSpec.ofChange Rows.logTwiceSpec) :=
  OpenClaim.holds_of_wide 8 Try.f8 rfl rfl rfl rfl rfl rfl rfl ⟨rfl, rfl, rfl, rfl, rfl⟩ rfl rfl rfl rfl rfl (by kernel_rfl) Try.func8 (by kernel_rfl)
    (of_decide_eq_true (by kernel_rfl)) (by unfold Func.isWrapper; first | (rw [if_pos (by decide +kernel)]; kernel_rfl) | (rw [if_neg (by decide +kernel)]; exact ⟨rfl, rfl⟩))
    (fun os started H enc _ => lifted os started H enc)

theorem proved : Rows.LogTwiceSaid :=
  over
#print axioms proved
end Go.Proofs.Ytcmeindekbjefaa.logTwice
