/- Package route: keys split into parts alike, by the program and by the document. -/
import Derived.Test.YtgioaapflilhhabRtS
import Derived.Test.YtgioaapflilhhabRt4
namespace Go.Proofs.Ytgioaapflilhhab
open Go.RowKit

/-- the place of the i-th split -/
def atE (k n i : Nat) : Nat := i * k / n
/-- the splits of a rising row: the first i places -/
def evenF (R : List ByteArray) (n : Nat) : Nat → List ByteArray
  | 0 => []
  | i + 1 => evenF R n i ++ if atE R.length n (i + 1) = atE R.length n i then [] else [R.getD (atE R.length n (i + 1)) ⟨#[]⟩]
theorem evenF_len (R : List ByteArray) (n : Nat) : ∀ i, (evenF R n i).length ≤ i
  | 0 => Nat.le_refl _
  | i + 1 => by
    have := evenF_len R n i
    unfold evenF
    rw [List.length_append]
    by_cases h : atE R.length n (i + 1) = atE R.length n i
    · rw [if_pos h]; simp; omega
    · rw [if_neg h]; simp; omega
theorem atE_mono (k n i : Nat) : atE k n i ≤ atE k n (i + 1) := Nat.div_le_div_right (Nat.mul_le_mul_right k (Nat.le_succ i))
theorem atE_lt {k n i : Nat} (hi : i < n) (hk : 0 < k) : atE k n i < k := by
  unfold atE
  exact Nat.div_lt_of_lt_mul (by rw [Nat.mul_comm n k, Nat.mul_comm i k]; exact Nat.mul_lt_mul_of_pos_left hi hk)
theorem atE_zero (k n : Nat) : atE k n 0 = 0 := by unfold atE; simp
theorem atE_none (n i : Nat) : atE 0 n i = 0 := by unfold atE; simp
theorem atE_pos {k n i : Nat} (h : atE k n (i + 1) ≠ atE k n i) : 0 < k ∧ 0 < atE k n (i + 1) := by
  have := atE_mono k n i
  refine ⟨Nat.pos_of_ne_zero fun e => ?_, by omega⟩
  subst e
  exact h (by rw [atE_none, atE_none])
/-- the last one so far -/
theorem evenF_last {R : List ByteArray} {n : Nat} : ∀ i, (atE R.length n i = 0 → evenF R n i = []) ∧ (0 < atE R.length n i → ∃ r, evenF R n i = r ++ [R.getD (atE R.length n i) ⟨#[]⟩])
  | 0 => ⟨fun _ => rfl, fun h => by rw [atE_zero] at h; omega⟩
  | i + 1 => by
    obtain ⟨h1, h2⟩ := evenF_last (R := R) (n := n) i
    unfold evenF
    by_cases h : atE R.length n (i + 1) = atE R.length n i
    · rw [if_pos h, List.append_nil, h]
      exact ⟨h1, h2⟩
    · rw [if_neg h]
      exact ⟨fun e => absurd (atE_pos h).2 (by omega), fun _ => ⟨_, rfl⟩⟩

set_option maxRecDepth 100000 in
set_option maxHeartbeats 400000 in
theorem even_bad (A : Option Addr) (k c : Nat) (n : Int) (w : World) (hn : n < 1 ∨ 8 < n) :
    Calls Try.prog 19 #[.slice A k c, .int .i64 n] w fun e w' => e = .returned (.tuple #[.pointer none, .int .i64 1]) ∧ w' = w := by
  by_cases h1 : n < 1
  · go_enter Try.func19, Try.ntmps19
    go_wp2_with fail
    go_ret2
    exact ⟨rfl, rfl⟩
  · have h2 : 8 < n := by omega
    clear hn
    go_enter Try.func19, Try.ntmps19
    go_wp2_with fail
    go_ret2
    exact ⟨rfl, rfl⟩

/-- what Even answers -/
def EvenRet (w : World) (l : List ByteArray) (N : Nat) (e : Ending) (w' : World) : Prop := ∃ R, Rises R ∧ (∀ x, x ∈ R ↔ x ∈ l) ∧ NewRet w (evenF R N (N - 1)) e w'

set_option maxRecDepth 100000 in
set_option maxHeartbeats 3200000 in
theorem even_any (A : Option Addr) (k c : Nat) (l : List ByteArray) (N : Nat) (w : World) (hs : Sees w w.heap.size A k (txs l)) (hk : k ≤ 1000) (hN : 1 ≤ N ∧ N ≤ 8) :
    Calls Try.prog 19 #[.slice A k c, .int .i64 (N : Int)] w (EvenRet w l N) := by
  obtain ⟨i0, hi0, hz0, hz1, hz2⟩ := info_parts str_row
  have hn1 : ¬ (N : Int) < 1 := by omega
  have hn2 : ¬ (8 : Int) < (N : Int) := by omega
  have HC := Lib.hid (sclone_any A k c l w hs (by omega))
  have HK := Lib.hid hk
  have HN := Lib.hid hN
  clear hs hk hN
  go_enter Try.func19, Try.ntmps19
  go_wp2_with fail
  refine HC.out.mono ?_
  rintro e w1 ⟨A1, c1, rfl, hf1, hb1⟩
  have HB1 := Lib.hid hb1
  have HS := Lib.hid (ssort_any w.heap.size A1 k c1 l w1 hf1 (by have := HK.out; omega) hb1.size)
  clear hf1 hb1 HC
  go_wp2_with fail
  refine HS.out.mono ?_
  rintro e w2 ⟨rfl, l2, hl2, hm2, hu2, hf2, hb2⟩
  have HB2 := Lib.hid (HB1.out.trans hb2)
  have HC2 := Lib.hid (scompact_any w.heap.size A1 k c1 l2 w2 hf2 hu2 (by have := HK.out; omega) HB2.out.size)
  have HM2 := Lib.hid hm2
  clear hl2 hm2 hu2 hf2 hb2 HB1 HS
  go_wp2_with fail
  refine HC2.out.mono ?_
  rintro e w3 ⟨R, hlR, rfl, hmR, hriR, hfR, hb3⟩
  have HB3 := Lib.hid (HB2.out.trans hb3)
  have HMR := Lib.hid (show ∀ x, x ∈ R ↔ x ∈ l from fun x => (hmR x).trans (HM2.out x))
  have HRI := Lib.hid hriR
  have HF3 := Lib.hid hfR
  have HLR := Lib.hid (show R.length ≤ 1000 from Nat.le_trans hlR HK.out)
  have hr1 : (R.length : Int) ≤ 1000 := by have := HLR.out; omega
  clear hlR hmR hriR hfR hb3 HB2 HC2 HM2
  go_wp2_with fail
  go_loopw [7, 8, 9] (fun sp ah iv wr => ∃ (i : Nat) (A5 : Option Addr) (c5 : Nat), i < N ∧ iv = .int .i64 ((i : Int) + 1) ∧ ah = .int .i64 (atE R.length N i : Int) ∧ sp = .slice A5 (evenF R N i).length c5 ∧ FreeN 1 wr w3.heap.size 9 A5 (evenF R N i).length c5 (txs (evenF R N i)) ∧ Below w3.heap.size w3 wr) (fun _ _ iv _ => N - (intOf iv).toNat)
  case atStart => exact ⟨0, none, 0, by have := HN.out; omega, rfl, by rw [atE_zero]; rfl, rfl, FreeN.nil _ _ _ _, Below.refl _ _⟩
  case round =>
    obtain ⟨i, A5, c5, hi, rfl, rfl, rfl, hf5, hb5⟩ := hrel
    have HF5 := Lib.hid hf5
    have HB5 := Lib.hid hb5
    have HEL := Lib.hid (evenF_len R N i)
    clear hf5 hb5
    by_cases hlt : i + 1 < N
    · have hlt' : (i : Int) + 1 < (N : Int) := by omega
      have hi8 : (i : Int) + 1 ≤ 8 := by omega
      have hi0' : (0 : Int) ≤ (i : Int) + 1 := by omega
      have HP := Lib.hid (show (i + 1) * R.length ≤ 8000 from Nat.le_trans (Nat.mul_le_mul (show i + 1 ≤ 8 by omega) HLR.out) (by decide))
      obtain ⟨P, hP⟩ : ∃ P, P = (i + 1) * R.length := ⟨_, rfl⟩
      have hmul : ((i : Int) + 1) * (R.length : Int) = (P : Int) := by rw [hP]; push_cast; rfl
      have hT : atE R.length N (i + 1) = P / N := by rw [hP]; rfl
      rw [← hP] at HP
      have hP0 : (0 : Int) ≤ (P : Int) := by omega
      have hP1 : (P : Int) ≤ 8000 := by have := HP.out; omega
      have HEV := Lib.hid (show evenF R N (i + 1) = evenF R N i ++ if atE R.length N (i + 1) = atE R.length N i then [] else [R.getD (atE R.length N (i + 1)) ⟨#[]⟩] from rfl)
      have HT2 := Lib.hid (show atE R.length N (i + 1) ≠ atE R.length N i → atE R.length N (i + 1) < R.length from fun h => atE_lt (by omega) (atE_pos h).1)
      have HT3 := Lib.hid (show atE R.length N (i + 1) ≤ 8000 by rw [hT]; exact Nat.le_trans (Nat.div_le_self _ _) HP.out)
      obtain ⟨T, hTe⟩ : ∃ T, atE R.length N (i + 1) = T := ⟨_, rfl⟩
      rw [hTe] at HEV HT2 HT3 hT
      have HTE := Lib.hid hTe
      clear hTe
      have hdiv : (P : Int) / (N : Int) = (T : Int) := by rw [hT]; push_cast; rfl
      have htd : (P : Int).tdiv (N : Int) = (T : Int) := by rw [Int.tdiv_eq_ediv_of_nonneg hP0]; exact hdiv
      have hNz : ¬ (N : Int) = 0 := by omega
      have HP' := Lib.hid hP
      have HT' := Lib.hid hT
      clear hP hT
      generalize atE R.length N i = T0 at *
      have hT8 : (T : Int) ≤ 8000 := by have := HT3.out; omega
      have hT0 : (0 : Int) ≤ (T : Int) := by omega
      by_cases hTT : T = T0
      · have hne : ((T : Int) != (T0 : Int)) = false := by simp [hTT]
        rw [if_pos hTT] at HEV
        have HTT := Lib.hid hTT
        clear hTT
        go_wp2_with fail
        go_roundw
        case rel =>
          refine ⟨i + 1, A5, c5, hlt, by go_num, by rw [HTE.out], ?_, ?_, HB5.out⟩
          · rw [HEV.out, List.append_nil]
          · rw [HEV.out, List.append_nil]
            exact HF5.out
        case measure => simp [intOf]; omega
      · have hne : ((T : Int) != (T0 : Int)) = true := by
          rw [bne_iff_ne]
          omega
        rw [if_neg hTT] at HEV
        have HTR := Lib.hid (HT2.out hTT)
        have hs3 := (HF3.out.on HB5.out).sees
        rw [Nat.mul_one] at hs3
        obtain ⟨b, off, rfl, hb, hcell⟩ := hs3.txt HTR.out
        have HX := Lib.hid (show R.getD T ⟨#[]⟩ = R[T]'(HTR.out) by rw [List.getD_eq_getElem?_getD, List.getElem?_eq_getElem HTR.out]; rfl)
        obtain ⟨x, hx⟩ : ∃ x, R[T]'(HTR.out) = x := ⟨_, rfl⟩
        rw [hx] at HX hcell
        rw [HX.out] at HEV
        have htr : (T : Int) < (R.length : Int) := by have := HTR.out; omega
        have hm1 : (evenF R N i).length + 1 ≤ maxLen := Nat.le_trans (show (evenF R N i).length + 1 ≤ 9 by have := HEL.out; omega) (by decide)
        have hm2 : ((evenF R N i).length + 1) * 16 ≤ 140737488355328 := by have := HEL.out; omega
        have hf6 := HF5.out.on ((Below.refl _ _).alloc (Nat.le_refl _) (.cells #[.string x] 9))
        have hsx := sees_new wr #[.string x] 9
        have hbz := Nat.le_trans HB5.out.size (show wr.heap.size ≤ (wr.alloc (.cells #[.string x] 9)).heap.size by simp)
        have HB6 := Lib.hid (HB5.out.alloc HB5.out.size (.cells #[.string x] 9))
        have HF6 := Lib.hid hf6
        have h1x : ∀ u ∈ [Value.string x], u.oneCell' = true := fun u hu => by rw [List.mem_singleton] at hu; subst hu; rfl
        have HELN := Lib.hid (show (evenF R N (i + 1)).length = (evenF R N i).length + 1 by rw [HEV.out]; simp)
        have HETX := Lib.hid (show txs (evenF R N (i + 1)) = txs (evenF R N i) ++ [.string x] by rw [HEV.out, txs_append]; rfl)
        clear hx hb hs3 hTT HX
        go_wp2_with (at_builtin; refine wpList_append_freeN (sz := 1) _ rfl (.tmp 37) (.tmp 42) _ rfl w3.heap.size 9 i0 _ 16 sl_txt hi0 hz0 hz1 hz2 rfl (by omega) A5 _ c5 _ rfl hf6 _ _ 1 1 [.string x] rfl hsx h1x hm1 hm2 hbz ?_; intro A7 c7 w7 ha7)
        have HB7 := Lib.hid (ha7.below HF6.out HB6.out (Nat.le_trans HB5.out.size (by simp)) (Nat.le_refl _))
        have HF7 := Lib.hid ha7.1
        go_roundw
        case rel =>
          refine ⟨i + 1, A7, c7, hlt, by go_num, by rw [HTE.out], ?_, ?_, HB7.out⟩
          · rw [HELN.out]
          · rw [HELN.out, HETX.out]
            exact HF7.out
        case measure => simp [intOf]; omega
    · have hge : ¬ (i : Int) + 1 < (N : Int) := by omega
      have hni : N - 1 = i := by omega
      have hs5 := HF5.out.sees
      rw [Nat.mul_one] at hs5
      have HNW := Lib.hid (new_any A5 (evenF R N i).length c5 (evenF R N i) wr hs5 (by have := HEL.out; have := HN.out; unfold maxLen; omega))
      have HNI := Lib.hid hni
      clear hs5 hni
      go_wp2_with fail
      refine HNW.out.mono ?_
      rintro e w6 ⟨h0, h1, hb6⟩
      have HB6 := Lib.hid ((HB3.out.trans (HB5.out.mono HB3.out.size)).trans (hb6.mono (Nat.le_trans HB3.out.size HB5.out.size)))
      by_cases hR : rightF (evenF R N i) = 0
      · obtain ⟨g4, rfl, hm4, hg4⟩ := h0 hR
        have HR := Lib.hid hR
        have HM4 := Lib.hid hm4
        have HG4 := Lib.hid hg4
        clear h0 h1 hb6 hR hm4 hg4
        go_wp2_with fail
        go_ret2
        refine ⟨R, HRI.out, HMR.out, ?_⟩
        rw [HNI.out]
        exact ⟨fun _ => ⟨g4, rfl, HM4.out, Nat.le_trans (Nat.le_trans HB3.out.size HB5.out.size) HG4.out⟩, fun h => absurd HR.out h, HB6.out⟩
      · have he := h1 hR
        obtain ⟨E, hE⟩ : ∃ E, rightF (evenF R N i) = E := ⟨_, rfl⟩
        rw [hE] at he hR
        subst he
        have HR := Lib.hid hR
        have HE := Lib.hid hE
        clear h0 h1 hb6 hR hE
        go_wp2_with fail
        go_ret2
        refine ⟨R, HRI.out, HMR.out, ?_⟩
        rw [HNI.out]
        exact NewRet.bad HE.out HR.out HB6.out
end Go.Proofs.Ytgioaapflilhhab
