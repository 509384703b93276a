/- RouteFinds: each key has just one shard, the one whose range it lies in; which splits may be is the document's. For every input, without a condition. -/
import Derived.Test.YtgioaapflilhhabRows
import Derived.Test.YtgioaapflilhhabFixB
import Derived.Test.YtgioaapflilhhabOpen8
import Derived.ProofKit
import Derived.OpenShut
import Derived.ShutString
namespace Go.Proofs.Ytgioaapflilhhab.routeFinds
open Go.ChangeShapes Go.WideShapes Go.ChangeAt Go.RowKit
open Go.ChangeMaps (open_string shut_string)
set_option linter.unusedVariables false

theorem own : ownKnob Try.prog.godebug = none := by kernel_rfl
theorem laidOut : laidOutB Try.prog = true := by kernel_rfl

/-- does a key lie in a shard's range? -/
def inF (l : List ByteArray) (i : Nat) (key : ByteArray) : Bool := !ltS key (lowF l i) && ((highF l i).toList == [] || ltS key (highF l i))
theorem empty_least (k : ByteArray) : ltS k ⟨#[]⟩ = false := by
  unfold ltS
  have : (⟨#[]⟩ : ByteArray).toList = [] := by kernel_rfl
  rw [this]
  cases k.toList <;> rfl
theorem in_iff {l : List ByteArray} (hr : rightF l = 0) (i : Nat) (hi : i ≤ l.length) (key : ByteArray) : inF l i key = decide (ofF l key = i) := by
  obtain ⟨_, hg, hri⟩ := rightF_zero hr
  have hle := ofF_le l key
  have hlow : (!ltS key (lowF l i)) = decide (i ≤ ofF l key) := by
    rcases i with _ | i
    · rw [show lowF l 0 = ⟨#[]⟩ from rfl, empty_least, decide_eq_true (Nat.zero_le _)]
      rfl
    · have hl : lowF l (i + 1) = l[i]'(by omega) := by unfold lowF; rw [if_neg (by omega), List.getD_eq_getElem?_getD, show i + 1 - 1 = i by omega, List.getElem?_eq_getElem (by omega)]; rfl
      rw [hl, ← leS_eq, ofF_at hri key i (by omega)]
      rfl
  have hhigh : ((highF l i).toList == [] || ltS key (highF l i)) = decide (ofF l key ≤ i) := by
    by_cases hil : i < l.length
    · have hl : highF l i = l[i] := by unfold highF; rw [if_pos hil, List.getD_eq_getElem?_getD, List.getElem?_eq_getElem hil]; rfl
      have hbad : badS l[i] = false := by
        have := List.any_eq_false.1 hg l[i] (List.getElem_mem _)
        simpa using this
      have hne : (l[i].toList == []) = false := by
        rw [beq_eq_false_iff_ne]
        intro e
        have h1 := (badS_false hbad).1
        have h2 : l[i].toList.length = l[i].size := by rw [Lib.toList_data]; exact text_len _
        rw [e] at h2
        simp at h2
        omega
      have h := ofF_at hri key i hil
      rw [leS_eq] at h
      rw [hl, hne, Bool.false_or]
      cases hk : ltS key l[i] with
      | true => rw [hk] at h; exact (decide_eq_true (by have := of_decide_eq_false h.symm; omega)).symm
      | false => rw [hk] at h; exact (decide_eq_false (by have := of_decide_eq_true h.symm; omega)).symm
    · have hl : highF l i = ⟨#[]⟩ := if_neg hil
      rw [hl, decide_eq_true (by omega)]
      have : (⟨#[]⟩ : ByteArray).toList = [] := by kernel_rfl
      rw [this]
      rfl
  unfold inF
  rw [hlow, hhigh, Bool.eq_iff_iff]
  simp only [Bool.and_eq_true, decide_eq_true_eq]
  omega

theorem in_ways {l : List ByteArray} (hr : rightF l = 0) (i : Nat) (hi : i ≤ l.length) (key : ByteArray) :
    (Op.bytesLess key.toList (lowF l i).toList = true ∧ ((ofF l key : Int) == (i : Int)) = false) ∨
    (Op.bytesLess key.toList (lowF l i).toList = false ∧ ((highF l i).toList = [] ∧ (highF l i).toList.isEmpty = true) ∧ ((ofF l key : Int) == (i : Int)) = true) ∨
    (Op.bytesLess key.toList (lowF l i).toList = false ∧ (¬ (highF l i).toList = [] ∧ (highF l i).toList.isEmpty = false) ∧ Op.bytesLess key.toList (highF l i).toList = true ∧ ((ofF l key : Int) == (i : Int)) = true) ∨
    (Op.bytesLess key.toList (lowF l i).toList = false ∧ (¬ (highF l i).toList = [] ∧ (highF l i).toList.isEmpty = false) ∧ Op.bytesLess key.toList (highF l i).toList = false ∧ ((ofF l key : Int) == (i : Int)) = false) := by
  have h := in_iff hr i hi key
  have e : ((ofF l key : Int) == (i : Int)) = decide (ofF l key = i) := by
    rw [Bool.eq_iff_iff, beq_iff_eq, decide_eq_true_iff]
    omega
  rw [e, ← h]
  unfold inF
  have e1 : Op.bytesLess key.toList (lowF l i).toList = ltS key (lowF l i) := rfl
  have e2 : Op.bytesLess key.toList (highF l i).toList = ltS key (highF l i) := rfl
  rw [e1, e2]
  cases ltS key (lowF l i) with
  | true => exact .inl ⟨rfl, rfl⟩
  | false =>
    right
    cases hh : (highF l i).toList with
    | nil => exact .inl ⟨rfl, ⟨rfl, rfl⟩, rfl⟩
    | cons a r =>
      right
      cases ltS key (highF l i) with
      | true => exact .inl ⟨rfl, ⟨by simp, rfl⟩, rfl, rfl⟩
      | false => exact .inr ⟨rfl, ⟨by simp, rfl⟩, rfl, rfl⟩

set_option maxRecDepth 100000 in
set_option maxHeartbeats 6400000 in
theorem walk (A : Option Addr) (n c : Nat) (l : List ByteArray) (key : ByteArray) (w : World) (hs : Sees w w.heap.size A n (txs l)) (hl : l.length = n) (hn : n ≤ maxLen) (hk : key.size ≤ maxLen) :
    Calls Try.prog 3 #[.slice A n c, .string key] w fun e w' => e = .returned (.bool true) ∧ Below w.heap.size w w' := by
  subst hl
  have HS := Lib.hid hs
  have HN := Lib.hid hn
  unfold maxLen at hn hk
  clear hs
  go_enter Try.func3, Try.ntmps3
  go_wp2_with fail
  refine (fixedB_any w).mono ?_
  rintro e w1 ⟨rfl, hb1⟩
  have HS1 := Lib.hid (HS.out.on hb1)
  have HB1 := Lib.hid hb1
  clear hb1 HS
  go_wp2_with fail
  refine (few_any A l.length c l 12 w1 _ HS1.out HN.out).mono ?_
  rintro e w' ⟨rfl, rfl⟩
  cases hfew : fewF l 12 with
  | false =>
    go_wp2_with fail
    go_ret
    exact ⟨rfl, HB1.out⟩
  | true =>
    by_cases hk1 : (100 : Int) < (key.size : Int)
    · go_wp2_with fail
      go_ret
      exact ⟨rfl, HB1.out⟩
    · go_wp2_with fail
      refine (new_any A l.length c l w' HS1.out HN.out).mono ?_
      rintro e w2 ⟨ha, hb, hb2⟩
      have HB2 := Lib.hid (HB1.out.trans (hb2.mono HB1.out.size))
      have HS2 := Lib.hid (HS1.out.on hb2)
      clear hb2 HB1 HS1
      by_cases hr : rightF l = 0
      · obtain ⟨g, rfl, hm, _⟩ := ha hr
        obtain ⟨hlen, _, _⟩ := rightF_zero hr
        have HM2 := Lib.hid hm
        have HR := Lib.hid hr
        have HRT := Lib.hid (right_any A l.length c l w2 _ HS2.out HN.out)
        rw [hr] at HRT
        clear ha hb hm hr
        go_wp2_with fail
        refine HRT.out.mono ?_
        rintro e w3 ⟨rfl, hb3⟩
        have HB3 := Lib.hid (HB2.out.trans (hb3.mono HB2.out.size))
        have HS3 := Lib.hid (HS2.out.on hb3)
        have HM3 := Lib.hid (HM2.out.on hb3)
        clear hb3 HB2 HS2 HM2 HRT
        have hw1 : IntKind.i64.wrap ((l.length : Int) + 1) = (l.length : Int) + 1 := by rw [IntKind.wrap_i64]; omega
        have hl7 : (l.length : Int) ≤ 7 := by omega
        go_wp2_with fail
        refine (shards_any g l w3 HM3.out hlen).mono ?_
        rintro e w' ⟨rfl, rfl⟩
        go_wp2_with fail
        refine (splits_any g l w' HM3.out hlen).mono ?_
        rintro e w4 ⟨A4, c4, rfl, hf4, hb4⟩
        have HB4 := Lib.hid (HB3.out.trans (hb4.mono HB3.out.size))
        have HS4 := Lib.hid (HS3.out.on hb4)
        have HM4 := Lib.hid (HM3.out.on hb4)
        have hs4 := hf4.sees
        rw [Nat.mul_one] at hs4
        have HSA := Lib.hid (same_any A4 l.length c4 l A l.length c l w4 _ _ hs4 HS4.out HN.out)
        rw [decide_eq_true (show l = l from rfl)] at HSA
        clear hb4 HB3 HS3 HM3 hf4 hs4
        go_wp2_with fail
        refine HSA.out.mono ?_
        rintro e w5 ⟨rfl, hb5⟩
        have HB5 := Lib.hid (HB4.out.trans (hb5.mono HB4.out.size))
        have HS5 := Lib.hid (HS4.out.on hb5)
        have HM5 := Lib.hid (HM4.out.on hb5)
        clear hb5 HB4 HS4 HM4 HSA
        go_wp2_with fail
        refine (of_below g l key w5 HM5.out HR.out).mono ?_
        rintro e w6 ⟨rfl, hb6⟩
        have HB6 := Lib.hid (HB5.out.trans (hb6.mono HB5.out.size))
        have HS6 := Lib.hid (HS5.out.on hb6)
        have HM6 := Lib.hid (HM5.out.on hb6)
        clear hb6 HB5 HS5 HM5
        go_wp2_with fail
        refine (refOf_any A l.length c l key w6 _ HS6.out HN.out).mono ?_
        rintro e w' ⟨rfl, rfl⟩
        go_wp2_with fail
        refine (shards_any g l _ HM6.out hlen).mono ?_
        rintro e w6 ⟨rfl, rfl⟩
        clear hfew hk1
        go_wp2_with fail
        go_loopw [70] (fun v wr => ∃ i : Nat, i ≤ l.length + 1 ∧ v = .int .i64 (i : Int) ∧ MapAt wr g l ∧ Below w.heap.size w wr) (fun v _ => l.length + 1 - (intOf v).toNat)
        case atStart => exact ⟨0, Nat.zero_le _, rfl, HM6.out, HB6.out⟩
        case round =>
          obtain ⟨i, hi, rfl, hmr, hbr⟩ := hrel
          have HMR := Lib.hid hmr
          have HBR := Lib.hid hbr
          clear hmr hbr
          by_cases hlt : i ≤ l.length
          · have hlt' : (i : Int) < (l.length : Int) + 1 := by omega
            have HRG := Lib.hid (range_any g l i wr HMR.out hlen hlt)
            have hways := in_ways HR.out i hlt key
            have HOF := Lib.hid (fun W (h : MapAt W g l) => of_below g l key W h HR.out)
            generalize lowF l i = low at *
            generalize highF l i = high at *
            generalize ofF l key = K at *
            rcases hways with ⟨h1, h4⟩ | ⟨h1, ⟨h2, h2'⟩, h4⟩ | ⟨h1, ⟨h2, h2'⟩, h3, h4⟩ | ⟨h1, ⟨h2, h2'⟩, h3, h4⟩
            all_goals
              go_wp2_with fail
              refine HRG.out.mono ?_
              rintro e w' ⟨rfl, rfl⟩
              go_wp2_with fail
              refine (HOF.out _ HMR.out).mono ?_
              rintro e w8 ⟨rfl, hb8⟩
              have HM8 := Lib.hid (HMR.out.on hb8)
              have HB8 := Lib.hid (HBR.out.trans (hb8.mono HBR.out.size))
              clear hb8
              go_wp2_with fail
              go_roundw
              case rel => exact ⟨i + 1, by omega, by go_num, HM8.out, HB8.out⟩
              case measure => simp [intOf]; omega
          · have hge : ¬ (i : Int) < (l.length : Int) + 1 := by omega
            go_wp2_with fail
            refine (range_none g l (-1) wr HMR.out (.inl (by decide))).mono ?_
            rintro e w' ⟨rfl, rfl⟩
            go_wp2_with fail
            go_ret
            exact ⟨rfl, HBR.out⟩
      · have he := hb hr
        subst he
        have HRT := Lib.hid (right_any A l.length c l w2 _ HS2.out HN.out)
        generalize rightF l = R at *
        have hr1 : (R == 0) = false := by simp [hr]
        have hr2 : (R != 0) = true := by simp [hr]
        clear ha hb hr
        go_wp2_with fail
        refine HRT.out.mono ?_
        rintro e w3 ⟨rfl, hb3⟩
        have HB3 := Lib.hid (HB2.out.trans (hb3.mono HB2.out.size))
        clear hb3 HB2
        go_wp2_with fail
        go_ret
        exact ⟨rfl, HB3.out⟩

set_option maxRecDepth 100000 in
theorem lifted (os : Os) (started : os.Started) (H : Type) (enc : TypeId × Value → H) :
    ReturnsInHanded {} Try.checked os 3 .any (Rows.routeFindsSpec.pre6 enc Try.prog Try.f3 Rows.routeFindsRow.domain false) (Rows.routeFindsSpec.post enc Try.prog Try.f3 false true false false) := by
  refine returnsInHanded_of_change (C := Try.checked) own started (by kernel_rfl) Try.func3
    (ChangeSpec.witness6 (enc := enc) (C := Try.checked) false ⟨#[], #[.slice none 0 0, .string ByteArray.empty], []⟩ 8 (by kernel_rfl) (by kernel_rfl) (by kernel_rfl) (by kernel_rfl)) ?_
  intro W base args ds gs before hval0 hW hcnd _
  have hval : ∀ (j : Nat) t v, Try.f3.params[j]? = some t → args[j]? = some v → Value.okWide Try.prog W .any base t v := hval0
  have hW' := hW
  obtain ⟨p, q, hA0, hV, rfl, hfz, hnd⟩ := hW
  have hA : DataW.TrodAll enc Try.prog W 0 (fun _ => true) true Try.f3.params.toList args.toList ds p := hA0
  rw [Try.params3] at hA hval
  obtain ⟨v0, vs0, d0, ds0, p0, q0, hargs, rfl, rfl, h0, r0⟩ := trodAll_cons hA
  obtain ⟨v1, vs1, d1, ds1, p1, q1, rfl, rfl, rfl, h1, r1⟩ := trodAll_cons r0
  obtain ⟨rfl, rfl, rfl⟩ := trodAll_nil r1
  obtain rfl : args = #[v0, v1] := by cases args; simp_all
  obtain ⟨rfl, rfl⟩ := trodVars_none hV
  obtain ⟨a0, len0, cap0, rfl⟩ := okWide_slice Try.underlying22 (hval 0 22 v0 rfl rfl)
  have k0 := h0
  have lt0 : ∀ x ∈ p0, x.block < W.heap.size := by obtain ⟨m, hm⟩ := k0; exact DataW.trod_lt m _ _ _ hm
  obtain ⟨m0, h0⟩ := h0
  obtain ⟨hl0, hc0, x0, hll0, hs0⟩ := open_strs h0
  obtain ⟨a1, rfl, rfl, rfl, w1⟩ := open_string Try.underlying9 (hval 1 9 v1 rfl rfl) h1
  clear hA0 hval0
  try simp only [List.append_nil] at hW'
  try simp only [List.nil_append] at hW'
  refine (walk a0 len0 cap0 x0 a1 W hs0 hll0 (Nat.le_trans hl0 hc0) w1).mono fun e W' ⟨he, bel⟩ => ?_
  subst he
  exact ⟨_, rfl, _, _, _, [], _, [], hW', trodAll_mk1 (shut_bool Try.underlying4 _), (trodAll_cons_mk (Below.trod laidOut (by kernel_rfl) (of_decide_eq_true (by kernel_rfl)) k0 bel lt0) (trodAll_cons_mk (shut_string Try.underlying9 w1) trodAll_mk0)), rfl, bel.frame _, fun h => by cases h⟩

theorem over : Rows.routeFindsRow.holds Try.pinned (OpenSpec.ofChange Rows.routeFindsSpec) :=
  OpenClaim.holds_of_wide 3 Try.f3 rfl rfl rfl rfl rfl rfl rfl ⟨rfl, rfl, rfl, rfl, rfl⟩ rfl rfl rfl rfl rfl (by kernel_rfl) Try.func3 (by kernel_rfl)
    (of_decide_eq_true (by kernel_rfl)) (by unfold Func.isWrapper; first | (rw [if_pos (by decide +kernel)]; kernel_rfl) | (rw [if_neg (by decide +kernel)]; exact ⟨rfl, rfl⟩))
    (fun os started H enc _ => lifted os started H enc)

theorem proved : Rows.RouteFindsSaid :=
  over
#print axioms proved
end Go.Proofs.Ytgioaapflilhhab.routeFinds
