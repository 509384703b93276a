/- RouteSplits: what is split, and joined again, is as it was; keys on either side of a split have shards next to each other. For every input, without a condition. -/
import Derived.Test.YtgioaapflilhhabRows
import Derived.Test.YtgioaapflilhhabFixB
import Derived.Test.YtgioaapflilhhabRt6
import Derived.Test.YtgioaapflilhhabOpen8
import Derived.ProofKit
import Derived.OpenShut
import Derived.ShutString
namespace Go.Proofs.Ytgioaapflilhhab.routeSplits
open Go.ChangeShapes Go.WideShapes Go.ChangeAt Go.RowKit
open Go.ChangeMaps (open_string shut_string)
set_option linter.unusedVariables false

theorem own : ownKnob Try.prog.godebug = none := by kernel_rfl
theorem laidOut : laidOutB Try.prog = true := by kernel_rfl

theorem putS_len (l : List ByteArray) (key : ByteArray) : (putS l key).length = l.length + 1 := by
  have := ins_len l (lowN l key) key (lowN_le l key)
  rwa [txs_length] at this
theorem putS_erase (l : List ByteArray) (key : ByteArray) : (putS l key).eraseIdx (lowN l key) = l := by
  have h1 : (l.take (lowN l key)).length = lowN l key := by rw [List.length_take]; have := lowN_le l key; omega
  unfold putS
  rw [List.eraseIdx_append_of_length_le (by omega), h1, Nat.sub_self]
  simp
theorem putS_count (l : List ByteArray) (key : ByteArray) (p : ByteArray → Bool) : (putS l key).countP p = l.countP p + if p key then 1 else 0 := by
  unfold putS
  rw [List.countP_append, List.countP_cons]
  have e : l.countP p = (l.take (lowN l key)).countP p + (l.drop (lowN l key)).countP p := by rw [← List.countP_append, List.take_append_drop]
  omega
theorem putS_good {l : List ByteArray} {key : ByteArray} (h : l.any badS = false) (hk : badS key = false) : (putS l key).any badS = false := by
  unfold putS
  rw [List.any_eq_false] at h ⊢
  intro x hx
  rw [List.mem_append, List.mem_cons] at hx
  rcases hx with hx | rfl | hx
  · exact h x (List.mem_of_mem_take hx)
  · simp [hk]
  · exact h x (List.mem_of_mem_drop hx)
theorem putS_get (l : List ByteArray) (key : ByteArray) (j : Nat) : (putS l key)[j]? = if j < lowN l key then l[j]? else if j = lowN l key then some key else l[j - 1]? := by
  have hle := lowN_le l key
  unfold putS
  rw [List.getElem?_append, List.length_take, Nat.min_eq_left hle]
  by_cases k1 : j < lowN l key
  · rw [if_pos k1, if_pos k1, List.getElem?_take, if_pos k1]
  · rw [if_neg k1, if_neg k1]
    by_cases k2 : j = lowN l key
    · rw [if_pos k2, k2, Nat.sub_self]
      rfl
    · rw [if_neg k2]
      obtain ⟨d, hd⟩ : ∃ d, j - lowN l key = d + 1 := ⟨j - lowN l key - 1, by omega⟩
      rw [hd, List.getElem?_cons_succ, List.getElem?_drop, show lowN l key + d = j - 1 by omega]
theorem putS_at {l : List ByteArray} {key x : ByteArray} {j : Nat} (hj : j < (putS l key).length) (h : (putS l key)[j]? = some x) : (putS l key)[j] = x := by
  rw [List.getElem?_eq_getElem hj] at h
  injection h
theorem putS_rises {l : List ByteArray} {key : ByteArray} (h : Rises l) (hk : hasS l key = false) : Rises (putS l key) := by
  have hlow := fun j hj => lowN_at h key j hj
  have hof : ofF l key = lowN l key := by
    have := ofF_low h key
    rwa [hk, if_neg (by decide), Nat.add_zero] at this
  have hup := fun j hj => ofF_at h key j hj
  rw [hof] at hup
  intro j hj
  have hj' := hj
  rw [putS_len] at hj'
  have hle := lowN_le l key
  have e1 := putS_get l key j
  have e2 := putS_get l key (j + 1)
  by_cases h1 : j + 1 < lowN l key
  · rw [if_pos (by omega), List.getElem?_eq_getElem (l := l) (by omega)] at e1
    rw [if_pos h1, List.getElem?_eq_getElem (l := l) (by omega)] at e2
    rw [putS_at _ e1, putS_at _ e2]
    exact h j (by omega)
  · by_cases h2 : j + 1 = lowN l key
    · rw [if_pos (by omega), List.getElem?_eq_getElem (l := l) (by omega)] at e1
      rw [if_neg h1, if_pos h2] at e2
      rw [putS_at _ e1, putS_at _ e2]
      have := hlow j (by omega)
      rwa [decide_eq_true (by omega)] at this
    · by_cases h3 : j = lowN l key
      · rw [if_neg (by omega), if_pos h3] at e1
        rw [if_neg h1, if_neg h2, Nat.add_sub_cancel, List.getElem?_eq_getElem (l := l) (by omega)] at e2
        rw [putS_at _ e1, putS_at _ e2]
        have := hup j (by omega)
        rw [decide_eq_false (by omega), leS_eq] at this
        simpa using this
      · obtain ⟨d, rfl⟩ : ∃ d, j = d + 1 := ⟨j - 1, by omega⟩
        rw [if_neg (by omega), if_neg h3, Nat.add_sub_cancel, List.getElem?_eq_getElem (l := l) (by omega)] at e1
        rw [if_neg h1, if_neg h2, Nat.add_sub_cancel, List.getElem?_eq_getElem (l := l) (by omega)] at e2
        rw [putS_at _ e1, putS_at _ e2]
        exact h d (by omega)
theorem putS_right {l : List ByteArray} {key : ByteArray} (hr : rightF l = 0) (hk : badS key = false) (hs : hasS l key = false) : rightF (putS l key) = if l.length = 7 then 7 else 0 := by
  obtain ⟨h1, h2, h3⟩ := rightF_zero hr
  have hn := putS_len l key
  by_cases h7 : l.length = 7
  · rw [if_pos h7]
    exact rightF_full (by omega)
  · rw [if_neg h7]
    exact rightF_ok (by omega) (putS_good h2 hk) (putS_rises h3 hs)
theorem putS_of (l : List ByteArray) (key other : ByteArray) : ofF (putS l key) other = ofF l other + if leS key other then 1 else 0 := putS_count l key _
/-- the split ahead of a key's shard is the key itself just if it is one -/
theorem ahead_is {l : List ByteArray} {key : ByteArray} (h : Rises l) : decide ((l.take (ofF l key)).drop (ofF l key - 1) = [key]) = hasS l key := by
  have hle := ofF_le l key
  have hof := ofF_low h key
  rw [Bool.eq_iff_iff, decide_eq_true_iff, hasS_iff]
  constructor
  · intro e
    have hm : key ∈ (l.take (ofF l key)).drop (ofF l key - 1) := by rw [e]; simp
    exact List.mem_of_mem_take (List.mem_of_mem_drop hm)
  · intro hm
    obtain ⟨h1, h2⟩ := lowN_mem h hm
    rw [if_pos ((hasS_iff l key).2 hm)] at hof
    rw [hof, Nat.add_sub_cancel, List.take_succ_eq_append_getElem h1, List.drop_append_of_le_length (by rw [List.length_take]; omega), List.drop_of_length_le (by rw [List.length_take]; omega), h2]
    rfl

theorem slice_mid (A : Option Addr) (n c lo hi : Nat) (h1 : lo ≤ hi) (h2 : hi ≤ c) (W : World) :
    (Instr.slice 22 (.slice A n c) (some (.int .i64 (lo : Int))) (some (.int .i64 (hi : Int))) none).run Try.prog W = .ok (.slice (if c = lo then A else A.map (·.add lo)) (hi - lo) (c - lo)) W := by
  have h := run_slice_lh (P := Try.prog) (w := W) 22 A n c (by kernel_rfl) .i64 .i64 (lo : Int) (hi : Int) (by omega) (by omega) (by omega)
  have hs : (sizeOf (Try.prog.elem 22)).run Try.prog W = .ok 1 W := by go_simp
  rw [h, hs]
  simp only [Result.andThen, sliced, Nat.mul_one, Int.toNat_natCast]
theorem sees_mid {w : World} {B n c lo hi : Nat} {A : Option Addr} {l : List ByteArray} (h : Sees w B A n (txs l)) (h1 : lo ≤ hi) (h2 : hi ≤ n) (h3 : n ≤ c) : Sees w B (if c = lo then A else A.map (·.add lo)) (hi - lo) (txs ((l.take hi).drop lo)) := by
  have k := (h.take h2).drop (k := lo) (cap := c) h1 (by omega)
  rwa [← txs_take, ← txs_drop] at k

set_option maxRecDepth 100000 in
set_option maxHeartbeats 6400000 in
theorem walk (A : Option Addr) (n c : Nat) (l : List ByteArray) (key other : ByteArray) (w : World) (hs : Sees w w.heap.size A n (txs l)) (hl : l.length = n) (hnc : n ≤ c) (hc : c ≤ maxLen) (hk : key.size ≤ maxLen) (ho : other.size ≤ maxLen) :
    Calls Try.prog 4 #[.slice A n c, .string key, .string other] w fun e w' => e = .returned (.bool true) ∧ Below w.heap.size w w' := by
  subst hl
  have HS := Lib.hid hs
  have HN := Lib.hid (Nat.le_trans hnc hc)
  have HNC := Lib.hid hnc
  unfold maxLen at hc hk ho
  clear hs
  go_enter Try.func4, Try.ntmps4
  go_wp2_with fail
  refine (fixedB_any w).mono ?_
  rintro e w1 ⟨rfl, hb1⟩
  have HS1 := Lib.hid (HS.out.on hb1)
  have HB1 := Lib.hid hb1
  clear hb1 HS
  go_wp2_with fail
  refine (few_any A l.length c l 7 w1 _ HS1.out HN.out).mono ?_
  rintro e w' ⟨rfl, rfl⟩
  cases hfew : fewF l 7 with
  | false =>
    go_wp2_with fail
    go_ret
    exact ⟨rfl, HB1.out⟩
  | true =>
    by_cases hk1 : (100 : Int) < (key.size : Int)
    · go_wp2_with fail
      go_ret
      exact ⟨rfl, HB1.out⟩
    · by_cases ho1 : (100 : Int) < (other.size : Int)
      · go_wp2_with fail
        go_ret
        exact ⟨rfl, HB1.out⟩
      · go_wp2_with fail
        refine (new_any A l.length c l w' HS1.out HN.out).mono ?_
        rintro e w2 ⟨ha, hb, hb2⟩
        have HB2 := Lib.hid (HB1.out.trans (hb2.mono HB1.out.size))
        have HS2 := Lib.hid (HS1.out.on hb2)
        clear hb2 HB1 HS1
        by_cases hr : rightF l = 0
        · obtain ⟨g, rfl, hm, _⟩ := ha hr
          obtain ⟨hlen, _, hri⟩ := rightF_zero hr
          have HM2 := Lib.hid hm
          have HR := Lib.hid hr
          have HRI := Lib.hid hri
          have HLN := Lib.hid hlen
          clear ha hb hm hr hri
          cases hbad : badS key with
          | true =>
            have HSP := Lib.hid (split_bad g key w2 hbad)
            have hwy : (key.toList = [] ∧ key.toList.isEmpty = true) ∨ ((¬ key.toList = [] ∧ key.toList.isEmpty = false) ∧ (16 : Int) < (key.size : Int)) := by
              have h2 : key.toList.length = key.size := by rw [Lib.toList_data]; exact text_len _
              rcases badS_tr hbad with h | h
              · exact .inl ⟨List.eq_nil_of_length_eq_zero (by omega), by rw [List.eq_nil_of_length_eq_zero (l := key.toList) (by omega)]; rfl⟩
              · right
                have hne : ¬ key.toList = [] := fun e => by rw [e] at h2; simp at h2; omega
                exact ⟨⟨hne, by simpa using hne⟩, by omega⟩
            clear hbad
            rcases hwy with ⟨k1, k2⟩ | ⟨⟨k1, k2⟩, k3⟩
            all_goals
              go_wp2_with fail
              refine HSP.out.mono ?_
              rintro e w' ⟨rfl, rfl⟩
              go_wp2_with fail
              go_ret
              exact ⟨rfl, HB2.out⟩
          | false =>
            have k1 : ¬ key.toList = [] := fun e => by
              have h2 : key.toList.length = key.size := by rw [Lib.toList_data]; exact text_len _
              have := badS_false hbad
              rw [e] at h2
              simp at h2
              omega
            have k2 : key.toList.isEmpty = false := by simpa using k1
            have k3 : ¬ (16 : Int) < (key.size : Int) := by have := badS_false hbad; omega
            have HOF := Lib.hid (fun x W (h : MapAt W g l) => of_below g l x W h HR.out)
            have HOFK := Lib.hid (fun W (h : MapAt W g l) => of_below g l key W h HR.out)
            have hKle : ofF l key ≤ 7 := Nat.le_trans (ofF_le l key) hlen
            have HKN := Lib.hid (ofF_le l key)
            have HAH := Lib.hid (ahead_is (l := l) (key := key) HRI.out)
            have HKD := Lib.hid (show ofF l key = ofF l key from rfl)
            have hK0 : (0 : Int) ≤ (ofF l key : Int) := by omega
            have hK7 : (ofF l key : Int) ≤ 7 := by omega
            have hmx : max ((ofF l key : Int) - 1) 0 = ((ofF l key - 1 : Nat) : Int) := by omega
            have HSL := Lib.hid (fun W => slice_mid A l.length c (ofF l key - 1) (ofF l key) (by omega) (Nat.le_trans HKN.out HNC.out) W)
            have HSM := Lib.hid (fun W (h : Sees W W.heap.size A l.length (txs l)) => sees_mid h (show ofF l key - 1 ≤ ofF l key by omega) HKN.out HNC.out)
            have hsl := fun W => HSL.out W
            have HPC := Lib.hid (putS_of l key other)
            have HPK := Lib.hid (show ofF (putS l key) key = ofF l key + 1 by rw [putS_of, leS_eq, ltS_irrefl]; rfl)
            have HPE := Lib.hid (putS_erase l key)
            have HPN := Lib.hid (putS_len l key)
            have HLO := Lib.hid (show hasS l key = false → lowN l key = ofF l key from fun h => by have := ofF_low HRI.out key; rw [h, if_neg (by decide), Nat.add_zero] at this; exact this.symm)
            have HPR := Lib.hid (fun hx => putS_right (l := l) (key := key) HR.out hbad hx)
            have HSA := fun W (h : Sees W W.heap.size A l.length (txs l)) => same_any (if c = ofF l key - 1 then A else A.map (·.add (ofF l key - 1))) (ofF l key - (ofF l key - 1)) (c - (ofF l key - 1)) _ (some ⟨W.heap.size, 0, none⟩) 1 1 [key] (W.alloc (.cells #[.string key] 9)) _ _ ((HSM.out W h).past (.cells #[.string key] 9)) (sees_new W #[.string key] 9) (by unfold maxLen; omega)
            rw [HAH.out] at HSA
            clear hKle
            cases hhas : hasS l key with
            | true =>
              have HSP := Lib.hid (split_is g l key w2 HM2.out HR.out hbad hhas)
              rw [hhas] at HSA
              have HSA := Lib.hid HSA
              generalize (if c = ofF l key - 1 then A else A.map (·.add (ofF l key - 1))) = A9 at *
              generalize ofF l key - 1 = K1 at *
              generalize ofF l key = K at *
              clear hbad hhas HPC HPK HPE HPN HLO HPR HOF HKD
              go_wp2_with fail
              refine HSP.out.mono ?_
              rintro e w3 ⟨rfl, hb3⟩
              have HB3 := Lib.hid (HB2.out.trans (hb3.mono HB2.out.size))
              have HS3 := Lib.hid (HS2.out.on hb3)
              have HM3 := Lib.hid (HM2.out.on hb3)
              clear hb3 HB2 HS2 HM2
              go_wp2_with fail
              refine (HOFK.out w3 HM3.out).mono ?_
              rintro e w4 ⟨rfl, hb4⟩
              have HB4 := Lib.hid (HB3.out.trans (hb4.mono HB3.out.size))
              have HS4 := Lib.hid (HS3.out.on hb4)
              have HM4 := Lib.hid (HM3.out.on hb4)
              clear hb4 HB3 HS3 HM3
              go_wp2_with fail
              refine (HOFK.out w4 HM4.out).mono ?_
              rintro e w5 ⟨rfl, hb5⟩
              have HB5 := Lib.hid (HB4.out.trans (hb5.mono HB4.out.size))
              have HS5 := Lib.hid (HS4.out.on hb5)
              clear hb5 HB4 HS4 HM4
              go_wp2_with fail
              refine (HSA.out w5 HS5.out).mono ?_
              rintro e w6 ⟨rfl, hb6⟩
              have HB6 := Lib.hid ((HB5.out.alloc HB5.out.size (.cells #[.string key] 9)).trans (hb6.mono (Nat.le_trans HB5.out.size (by simp))))
              clear hb6 HB5
              go_wp2_with fail
              go_ret
              exact ⟨rfl, HB6.out⟩
            | false =>
              have HSP := Lib.hid (split_any g l key w2 HM2.out HR.out hbad hhas)
              have hpr := HPR.out hhas
              have hlo := HLO.out hhas
              rw [hlo] at HPE
              rw [hhas] at HSA
              have HSA := Lib.hid HSA
              have HPQK := Lib.hid (fun g4 W (h : MapAt W g4 (putS l key)) (hr : rightF (putS l key) = 0) => of_below g4 (putS l key) key W h hr)
              have HPQO := Lib.hid (fun g4 W (h : MapAt W g4 (putS l key)) (hr : rightF (putS l key) = 0) => of_below g4 (putS l key) other W h hr)
              rw [HPK.out] at HPQK
              rw [HPC.out] at HPQO
              have HOO := Lib.hid (fun W (h : MapAt W g l) => of_below g l other W h HR.out)
              have hM7 : ofF l other ≤ 7 := Nat.le_trans (ofF_le l other) HLN.out
              have HKP := Lib.hid (show ofF l key < (putS l key).length by rw [HPN.out]; have := HKN.out; omega)
              generalize (if c = ofF l key - 1 then A else A.map (·.add (ofF l key - 1))) = A9 at *
              generalize ofF l key - 1 = K1 at *
              generalize ofF l key = K at *
              generalize ofF l other = M at *
              generalize putS l key = P at *
              have hM0 : (0 : Int) ≤ (M : Int) := by omega
              have hM9 : (M : Int) ≤ 7 := by omega
              clear hbad hhas HPC HPK HLO HPR HOF HKD hlo HAH hM7
              by_cases h7 : l.length = 7
              · have h7' : ((l.length : Int) == 7) = true := by rw [h7]; rfl
                rw [if_pos h7] at hpr
                have HPR := Lib.hid hpr
                have H7 := Lib.hid h7
                clear hpr h7
                go_wp2_with fail
                refine HSP.out.mono ?_
                rintro e w3 ⟨_, h1, hb⟩
                have he := h1 (by rw [HPR.out]; decide)
                rw [HPR.out] at he
                subst he
                have HB3 := Lib.hid (HB2.out.trans (hb.mono HB2.out.size))
                have HS3 := Lib.hid (HS2.out.on hb)
                have HM3 := Lib.hid (HM2.out.on hb)
                clear h1 hb HB2 HS2 HM2
                go_wp2_with fail
                refine (HOFK.out w3 HM3.out).mono ?_
                rintro e w4 ⟨rfl, hb⟩
                have HB4 := Lib.hid (HB3.out.trans (hb.mono HB3.out.size))
                have HS4 := Lib.hid (HS3.out.on hb)
                have HM4 := Lib.hid (HM3.out.on hb)
                clear hb HB3 HS3 HM3
                go_wp2_with fail
                refine (HOFK.out w4 HM4.out).mono ?_
                rintro e w5 ⟨rfl, hb⟩
                have HB5 := Lib.hid (HB4.out.trans (hb.mono HB4.out.size))
                have HS5 := Lib.hid (HS4.out.on hb)
                have HM5 := Lib.hid (HM4.out.on hb)
                clear hb HB4 HS4 HM4
                go_wp2_with fail
                refine (HSA.out w5 HS5.out).mono ?_
                rintro e w6 ⟨rfl, hb⟩
                have hb' := ((Below.refl w5.heap.size w5).alloc (Nat.le_refl _) (.cells #[.string key] 9)).trans (hb.mono (by simp))
                have HB6 := Lib.hid (HB5.out.trans (hb'.mono HB5.out.size))
                clear hb hb' HB5
                go_wp2_with fail
                go_ret
                exact ⟨rfl, HB6.out⟩
              · have h7' : ((l.length : Int) == 7) = false := by rw [beq_eq_false_iff_ne]; omega
                rw [if_neg h7] at hpr
                have HPR := Lib.hid hpr
                have H7 := Lib.hid h7
                have hl6 : (l.length : Int) ≤ 6 := by have := HLN.out; omega
                have hl0 : (0 : Int) ≤ (l.length : Int) := by omega
                have HPL := Lib.hid (show P.length ≤ 7 by rw [HPN.out]; have := HLN.out; omega)
                clear hpr h7
                go_wp2_with fail
                refine HSP.out.mono ?_
                rintro e w3 ⟨h0, _, hb⟩
                obtain ⟨g4, rfl, hm4, _⟩ := h0 HPR.out
                have HB3 := Lib.hid (HB2.out.trans (hb.mono HB2.out.size))
                have HS3 := Lib.hid (HS2.out.on hb)
                have HM3 := Lib.hid (HM2.out.on hb)
                have HP3 := Lib.hid hm4
                clear h0 hb HB2 HS2 HM2 hm4
                go_wp2_with fail
                refine (HOFK.out w3 HM3.out).mono ?_
                rintro e w4 ⟨rfl, hb⟩
                have HB4 := Lib.hid (HB3.out.trans (hb.mono HB3.out.size))
                have HS4 := Lib.hid (HS3.out.on hb)
                have HM4 := Lib.hid (HM3.out.on hb)
                have HP4 := Lib.hid (HP3.out.on hb)
                clear hb HB3 HS3 HM3 HP3
                go_wp2_with fail
                refine (HOFK.out w4 HM4.out).mono ?_
                rintro e w5 ⟨rfl, hb⟩
                have HB5 := Lib.hid (HB4.out.trans (hb.mono HB4.out.size))
                have HS5 := Lib.hid (HS4.out.on hb)
                have HM5 := Lib.hid (HM4.out.on hb)
                have HP5 := Lib.hid (HP4.out.on hb)
                clear hb HB4 HS4 HM4 HP4
                go_wp2_with fail
                refine (HSA.out w5 HS5.out).mono ?_
                rintro e w6 ⟨rfl, hb⟩
                have hb' := ((Below.refl w5.heap.size w5).alloc (Nat.le_refl _) (.cells #[.string key] 9)).trans (hb.mono (by simp))
                have HB6 := Lib.hid (HB5.out.trans (hb'.mono HB5.out.size))
                have HS6 := Lib.hid (HS5.out.on hb')
                have HM6 := Lib.hid (HM5.out.on hb')
                have HP6 := Lib.hid (HP5.out.on hb')
                clear hb hb' HB5 HS5 HM5 HP5
                have hsp := shards_any g4 P w6 HP6.out HPL.out
                rw [HPN.out, show ((l.length + 1 : Nat) : Int) = (l.length : Int) + 1 from by omega] at hsp
                have HSP2 := Lib.hid hsp
                clear hsp
                go_wp2_with fail
                refine HSP2.out.mono ?_
                rintro e w' ⟨rfl, rfl⟩
                go_wp2_with fail
                refine (shards_any g l _ HM6.out HLN.out).mono ?_
                rintro e w6 ⟨rfl, rfl⟩
                clear HSP2
                have hpk := HPQK.out g4 w6 HP6.out HPR.out
                rw [show ((K + 1 : Nat) : Int) = (K : Int) + 1 from by omega] at hpk
                have HPK6 := Lib.hid hpk
                clear hpk
                go_wp2_with fail
                refine (HPK6.out).mono ?_
                rintro e w7 ⟨rfl, hb⟩
                have HB7 := Lib.hid (HB6.out.trans (hb.mono HB6.out.size))
                have HS7 := Lib.hid (HS6.out.on hb)
                have HM7 := Lib.hid (HM6.out.on hb)
                have HP7 := Lib.hid (HP6.out.on hb)
                clear hb HB6 HS6 HM6 HP6
                clear HPK6
                go_wp2_with fail
                refine (HOFK.out w7 HM7.out).mono ?_
                rintro e w8 ⟨rfl, hb⟩
                have HB8 := Lib.hid (HB7.out.trans (hb.mono HB7.out.size))
                have HS8 := Lib.hid (HS7.out.on hb)
                have HM8 := Lib.hid (HM7.out.on hb)
                have HP8 := Lib.hid (HP7.out.on hb)
                clear hb HB7 HS7 HM7 HP7
                go_wp2_with fail
                refine (HOO.out w8 HM8.out).mono ?_
                rintro e w9 ⟨rfl, hb⟩
                have HB9 := Lib.hid (HB8.out.trans (hb.mono HB8.out.size))
                have HS9 := Lib.hid (HS8.out.on hb)
                have HM9 := Lib.hid (HM8.out.on hb)
                have HP9 := Lib.hid (HP8.out.on hb)
                clear hb HB8 HS8 HM8 HP8
                cases hok : ltS other key with
                | true =>
                  have hraw := lt_raw hok
                  have HLE := Lib.hid (show leS key other = false by rw [leS_eq, hok]; rfl)
                  clear hok
                  go_wp2_with fail
                  refine (HOFK.out w9 HM9.out).mono ?_
                  rintro e w10 ⟨rfl, hb⟩
                  have HB10 := Lib.hid (HB9.out.trans (hb.mono HB9.out.size))
                  have HS10 := Lib.hid (HS9.out.on hb)
                  have HM10 := Lib.hid (HM9.out.on hb)
                  have HP10 := Lib.hid (HP9.out.on hb)
                  clear hb HB9 HS9 HM9 HP9
                  have hj := join_any g4 P K w10 HP10.out HPL.out HKP.out
                  rw [HPE.out] at hj
                  have HJ := Lib.hid hj
                  clear hj
                  go_wp2_with fail
                  refine HJ.out.mono ?_
                  rintro e w11 ⟨h0, _, hb⟩
                  obtain ⟨g5, rfl, hm5, _⟩ := h0 HR.out
                  have HB11 := Lib.hid (HB10.out.trans (hb.mono HB10.out.size))
                  have HS11 := Lib.hid (HS10.out.on hb)
                  have HM11 := Lib.hid (HM10.out.on hb)
                  have HP11 := Lib.hid (HP10.out.on hb)
                  have HY11 := Lib.hid hm5
                  clear h0 hb HB10 HS10 HM10 HP10 hm5 HJ
                  have hpo := HPQO.out g4 w11 HP11.out HPR.out
                  rw [HLE.out, if_neg (by decide), Nat.add_zero] at hpo
                  have HPO := Lib.hid hpo
                  clear hpo
                  go_wp2_with fail
                  refine (HPO.out).mono ?_
                  rintro e w12 ⟨rfl, hb⟩
                  have HB12 := Lib.hid (HB11.out.trans (hb.mono HB11.out.size))
                  have HS12 := Lib.hid (HS11.out.on hb)
                  have HM12 := Lib.hid (HM11.out.on hb)
                  have HY12 := Lib.hid (HY11.out.on hb)
                  clear hb HB11 HS11 HM11 HY11
                  go_wp2_with fail
                  refine (splits_any g5 l w12 HY12.out HLN.out).mono ?_
                  rintro e w13 ⟨A13, c13, rfl, hf, hb⟩
                  have HB13 := Lib.hid (HB12.out.trans (hb.mono HB12.out.size))
                  have HS13 := Lib.hid (HS12.out.on hb)
                  have HM13 := Lib.hid (HM12.out.on hb)
                  have hs := hf.sees
                  rw [Nat.mul_one] at hs
                  have hsa := same_any A13 l.length c13 l A l.length c l w13 _ _ hs HS13.out HN.out
                  rw [decide_eq_true (show l = l from rfl)] at hsa
                  have HSA1 := Lib.hid hsa
                  clear hf hb hs hsa HB12 HS12 HM12
                  go_wp2_with fail
                  refine (HSA1.out).mono ?_
                  rintro e w14 ⟨rfl, hb⟩
                  have HB14 := Lib.hid (HB13.out.trans (hb.mono HB13.out.size))
                  have HS14 := Lib.hid (HS13.out.on hb)
                  have HM14 := Lib.hid (HM13.out.on hb)
                  clear hb HB13 HS13 HM13
                  go_wp2_with fail
                  refine (splits_any g l w14 HM14.out HLN.out).mono ?_
                  rintro e w15 ⟨A15, c15, rfl, hf, hb⟩
                  have HB15 := Lib.hid (HB14.out.trans (hb.mono HB14.out.size))
                  have HS15 := Lib.hid (HS14.out.on hb)
                  have hs := hf.sees
                  rw [Nat.mul_one] at hs
                  have hsa := same_any A15 l.length c15 l A l.length c l w15 _ _ hs HS15.out HN.out
                  rw [decide_eq_true (show l = l from rfl)] at hsa
                  have HSA2 := Lib.hid hsa
                  clear hf hb hs hsa HB14 HS14
                  go_wp2_with fail
                  refine (HSA2.out).mono ?_
                  rintro e w16 ⟨rfl, hb⟩
                  have HB16 := Lib.hid (HB15.out.trans (hb.mono HB15.out.size))
                  clear hb HB15 
                  go_wp2_with fail
                  go_ret
                  exact ⟨rfl, HB16.out⟩
                | false =>
                  have hraw := lt_raw hok
                  have HLE := Lib.hid (show leS key other = true by rw [leS_eq, hok]; rfl)
                  clear hok
                  go_wp2_with fail
                  refine (HOFK.out w9 HM9.out).mono ?_
                  rintro e w10 ⟨rfl, hb⟩
                  have HB10 := Lib.hid (HB9.out.trans (hb.mono HB9.out.size))
                  have HS10 := Lib.hid (HS9.out.on hb)
                  have HM10 := Lib.hid (HM9.out.on hb)
                  have HP10 := Lib.hid (HP9.out.on hb)
                  clear hb HB9 HS9 HM9 HP9
                  have hj := join_any g4 P K w10 HP10.out HPL.out HKP.out
                  rw [HPE.out] at hj
                  have HJ := Lib.hid hj
                  clear hj
                  go_wp2_with fail
                  refine HJ.out.mono ?_
                  rintro e w11 ⟨h0, _, hb⟩
                  obtain ⟨g5, rfl, hm5, _⟩ := h0 HR.out
                  have HB11 := Lib.hid (HB10.out.trans (hb.mono HB10.out.size))
                  have HS11 := Lib.hid (HS10.out.on hb)
                  have HM11 := Lib.hid (HM10.out.on hb)
                  have HP11 := Lib.hid (HP10.out.on hb)
                  have HY11 := Lib.hid hm5
                  clear h0 hb HB10 HS10 HM10 HP10 hm5 HJ
                  have hpo := HPQO.out g4 w11 HP11.out HPR.out
                  rw [HLE.out, if_pos rfl, show ((M + 1 : Nat) : Int) = (M : Int) + 1 from by omega] at hpo
                  have HPO := Lib.hid hpo
                  clear hpo
                  go_wp2_with fail
                  refine (HPO.out).mono ?_
                  rintro e w12 ⟨rfl, hb⟩
                  have HB12 := Lib.hid (HB11.out.trans (hb.mono HB11.out.size))
                  have HS12 := Lib.hid (HS11.out.on hb)
                  have HM12 := Lib.hid (HM11.out.on hb)
                  have HY12 := Lib.hid (HY11.out.on hb)
                  clear hb HB11 HS11 HM11 HY11
                  go_wp2_with fail
                  refine (splits_any g5 l w12 HY12.out HLN.out).mono ?_
                  rintro e w13 ⟨A13, c13, rfl, hf, hb⟩
                  have HB13 := Lib.hid (HB12.out.trans (hb.mono HB12.out.size))
                  have HS13 := Lib.hid (HS12.out.on hb)
                  have HM13 := Lib.hid (HM12.out.on hb)
                  have hs := hf.sees
                  rw [Nat.mul_one] at hs
                  have hsa := same_any A13 l.length c13 l A l.length c l w13 _ _ hs HS13.out HN.out
                  rw [decide_eq_true (show l = l from rfl)] at hsa
                  have HSA1 := Lib.hid hsa
                  clear hf hb hs hsa HB12 HS12 HM12
                  go_wp2_with fail
                  refine (HSA1.out).mono ?_
                  rintro e w14 ⟨rfl, hb⟩
                  have HB14 := Lib.hid (HB13.out.trans (hb.mono HB13.out.size))
                  have HS14 := Lib.hid (HS13.out.on hb)
                  have HM14 := Lib.hid (HM13.out.on hb)
                  clear hb HB13 HS13 HM13
                  go_wp2_with fail
                  refine (splits_any g l w14 HM14.out HLN.out).mono ?_
                  rintro e w15 ⟨A15, c15, rfl, hf, hb⟩
                  have HB15 := Lib.hid (HB14.out.trans (hb.mono HB14.out.size))
                  have HS15 := Lib.hid (HS14.out.on hb)
                  have hs := hf.sees
                  rw [Nat.mul_one] at hs
                  have hsa := same_any A15 l.length c15 l A l.length c l w15 _ _ hs HS15.out HN.out
                  rw [decide_eq_true (show l = l from rfl)] at hsa
                  have HSA2 := Lib.hid hsa
                  clear hf hb hs hsa HB14 HS14
                  go_wp2_with fail
                  refine (HSA2.out).mono ?_
                  rintro e w16 ⟨rfl, hb⟩
                  have HB16 := Lib.hid (HB15.out.trans (hb.mono HB15.out.size))
                  clear hb HB15 
                  go_wp2_with fail
                  go_ret
                  exact ⟨rfl, HB16.out⟩
        · have he := hb hr
          subst he
          generalize rightF l = R at *
          have hr1 : (R == 0) = false := by simp [hr]
          have hr2 : (R != 0) = true := by simp [hr]
          clear ha hb hr
          go_wp2_with fail
          go_ret
          exact ⟨rfl, HB2.out⟩

set_option maxRecDepth 100000 in
theorem lifted (os : Os) (started : os.Started) (H : Type) (enc : TypeId × Value → H) :
    ReturnsInHanded {} Try.checked os 4 .any (Rows.routeSplitsSpec.pre6 enc Try.prog Try.f4 Rows.routeSplitsRow.domain false) (Rows.routeSplitsSpec.post enc Try.prog Try.f4 false true false false) := by
  refine returnsInHanded_of_change (C := Try.checked) own started (by kernel_rfl) Try.func4
    (ChangeSpec.witness6 (enc := enc) (C := Try.checked) false ⟨#[], #[.slice none 0 0, .string ByteArray.empty, .string ByteArray.empty], []⟩ 8 (by kernel_rfl) (by kernel_rfl) (by kernel_rfl) (by kernel_rfl)) ?_
  intro W base args ds gs before hval0 hW hcnd _
  have hval : ∀ (j : Nat) t v, Try.f4.params[j]? = some t → args[j]? = some v → Value.okWide Try.prog W .any base t v := hval0
  have hW' := hW
  obtain ⟨p, q, hA0, hV, rfl, hfz, hnd⟩ := hW
  have hA : DataW.TrodAll enc Try.prog W 0 (fun _ => true) true Try.f4.params.toList args.toList ds p := hA0
  rw [Try.params4] at hA hval
  obtain ⟨v0, vs0, d0, ds0, p0, q0, hargs, rfl, rfl, h0, r0⟩ := trodAll_cons hA
  obtain ⟨v1, vs1, d1, ds1, p1, q1, rfl, rfl, rfl, h1, r1⟩ := trodAll_cons r0
  obtain ⟨v2, vs2, d2, ds2, p2, q2, rfl, rfl, rfl, h2, r2⟩ := trodAll_cons r1
  obtain ⟨rfl, rfl, rfl⟩ := trodAll_nil r2
  obtain rfl : args = #[v0, v1, v2] := by cases args; simp_all
  obtain ⟨rfl, rfl⟩ := trodVars_none hV
  obtain ⟨a0, len0, cap0, rfl⟩ := okWide_slice Try.underlying22 (hval 0 22 v0 rfl rfl)
  have k0 := h0
  have lt0 : ∀ x ∈ p0, x.block < W.heap.size := by obtain ⟨m, hm⟩ := k0; exact DataW.trod_lt m _ _ _ hm
  obtain ⟨m0, h0⟩ := h0
  obtain ⟨hl0, hc0, x0, hll0, hs0⟩ := open_strs h0
  obtain ⟨a1, rfl, rfl, rfl, w1⟩ := open_string Try.underlying9 (hval 1 9 v1 rfl rfl) h1
  obtain ⟨a2, rfl, rfl, rfl, w2⟩ := open_string Try.underlying9 (hval 2 9 v2 rfl rfl) h2
  clear hA0 hval0
  try simp only [List.append_nil] at hW'
  try simp only [List.nil_append] at hW'
  refine (walk a0 len0 cap0 x0 a1 a2 W hs0 hll0 hl0 hc0 w1 w2).mono fun e W' ⟨he, bel⟩ => ?_
  subst he
  exact ⟨_, rfl, _, _, _, [], _, [], hW', trodAll_mk1 (shut_bool Try.underlying4 _), (trodAll_cons_mk (Below.trod laidOut (by kernel_rfl) (of_decide_eq_true (by kernel_rfl)) k0 bel lt0) (trodAll_cons_mk (shut_string Try.underlying9 w1) (trodAll_cons_mk (shut_string Try.underlying9 w2) trodAll_mk0))), rfl, bel.frame _, fun h => by cases h⟩

theorem over : Rows.routeSplitsRow.holds Try.pinned (OpenSpec.ofChange Rows.routeSplitsSpec) :=
  OpenClaim.holds_of_wide 4 Try.f4 rfl rfl rfl rfl rfl rfl rfl ⟨rfl, rfl, rfl, rfl, rfl⟩ rfl rfl rfl rfl rfl (by kernel_rfl) Try.func4 (by kernel_rfl)
    (of_decide_eq_true (by kernel_rfl)) (by unfold Func.isWrapper; first | (rw [if_pos (by decide +kernel)]; kernel_rfl) | (rw [if_neg (by decide +kernel)]; exact ⟨rfl, rfl⟩))
    (fun os started H enc _ => lifted os started H enc)

theorem proved : Rows.RouteSplitsSaid :=
  over
#print axioms proved
end Go.Proofs.Ytgioaapflilhhab.routeSplits
