/- Package route: the document's Even. -/
import Derived.Test.YtgioaapflilhhabRt8
namespace Go.Proofs.Ytgioaapflilhhab
open Go.RowKit

/-- what the document's Even answers -/
def RefEvenRet (w : World) (l : List ByteArray) (N : Nat) (e : Ending) (w' : World) : Prop :=
  ∃ R A' c', Rises R ∧ (∀ x, x ∈ R ↔ x ∈ l) ∧ e = .returned (.slice A' (evenF R N (N - 1)).length c') ∧ FreeN 1 w' w.heap.size 9 A' (evenF R N (N - 1)).length c' (txs (evenF R N (N - 1))) ∧ Below w.heap.size w w'

set_option maxRecDepth 100000 in
set_option maxHeartbeats 6400000 in
theorem refEven_any (A : Option Addr) (k c : Nat) (l : List ByteArray) (N : Nat) (w : World) (hs : Sees w w.heap.size A k (txs l)) (hk : k ≤ 1000) (hN : 1 ≤ N ∧ N ≤ 8) :
    Calls Try.prog 20 #[.slice A k c, .int .i64 (N : Int)] w (RefEvenRet w l N) := by
  obtain ⟨i0, hi0, hz0, hz1, hz2⟩ := info_parts str_row
  have hn1 : ¬ (N : Int) < 1 := by omega
  have HC := Lib.hid (sorted_any A k c l w hs hk)
  have HK := Lib.hid hk
  have HN := Lib.hid hN
  clear hs hk hN
  go_enter Try.func20, Try.ntmps20
  go_wp2_with fail
  refine HC.out.mono ?_
  rintro e w3 ⟨R, A3, c3, rfl, hriR, hmR, hlR, hfR, hb3⟩
  have HB3 := Lib.hid hb3
  have HMR := Lib.hid hmR
  have HRI := Lib.hid hriR
  have HF3 := Lib.hid hfR
  have HLR := Lib.hid (show R.length ≤ 1000 from Nat.le_trans hlR HK.out)
  have hr1 : (R.length : Int) ≤ 1000 := by have := HLR.out; omega
  clear hlR hmR hriR hfR hb3 HC
  go_wp2_with fail
  go_loopw [6, 7] (fun sp iv wr => ∃ (i : Nat) (A5 : Option Addr) (c5 : Nat), i < N ∧ iv = .int .i64 ((i : Int) + 1) ∧ sp = .slice A5 (evenF R N i).length c5 ∧ FreeN 1 wr w3.heap.size 9 A5 (evenF R N i).length c5 (txs (evenF R N i)) ∧ Below w3.heap.size w3 wr) (fun _ iv _ => N - (intOf iv).toNat)
  case atStart => exact ⟨0, none, 0, by have := HN.out; omega, rfl, rfl, FreeN.nil _ _ _ _, Below.refl _ _⟩
  case round =>
    obtain ⟨i, A5, c5, hi, rfl, rfl, hf5, hb5⟩ := hrel
    have HF5 := Lib.hid hf5
    have HB5 := Lib.hid hb5
    have HEL := Lib.hid (evenF_len R N i)
    clear hf5 hb5
    by_cases hlt : i + 1 < N
    · have hlt' : (i : Int) + 1 < (N : Int) := by omega
      have hi8 : (i : Int) + 1 ≤ 8 := by have := HN.out; omega
      have hi0' : (0 : Int) ≤ (i : Int) + 1 := by omega
      have HP := Lib.hid (show (i + 1) * R.length ≤ 8000 from Nat.le_trans (Nat.mul_le_mul (show i + 1 ≤ 8 by omega) HLR.out) (by decide))
      obtain ⟨P, hP⟩ : ∃ P, P = (i + 1) * R.length := ⟨_, rfl⟩
      have hmul : ((i : Int) + 1) * (R.length : Int) = (P : Int) := by rw [hP]; push_cast; rfl
      have hT : atE R.length N (i + 1) = P / N := by rw [hP]; rfl
      rw [← hP] at HP
      have hP0 : (0 : Int) ≤ (P : Int) := by omega
      have hP1 : (P : Int) ≤ 8000 := by have := HP.out; omega
      have HEV := Lib.hid (show evenF R N (i + 1) = evenF R N i ++ if atE R.length N (i + 1) = atE R.length N i then [] else [R.getD (atE R.length N (i + 1)) ⟨#[]⟩] from rfl)
      have HT2 := Lib.hid (show 0 < atE R.length N (i + 1) → atE R.length N (i + 1) < R.length from fun h => atE_lt (by omega) (Nat.pos_of_ne_zero fun e => by rw [e, atE_none] at h; omega))
      have HT3 := Lib.hid (show atE R.length N (i + 1) ≤ 8000 by rw [hT]; exact Nat.le_trans (Nat.div_le_self _ _) HP.out)
      have HT4 := Lib.hid (atE_mono R.length N i)
      have HLA := Lib.hid (evenF_last (R := R) (n := N) i)
      obtain ⟨T, hTe⟩ : ∃ T, atE R.length N (i + 1) = T := ⟨_, rfl⟩
      rw [hTe] at HEV HT2 HT3 HT4 hT
      have HTE := Lib.hid hTe
      clear hTe
      have hdiv : (P : Int) / (N : Int) = (T : Int) := by rw [hT]; push_cast; rfl
      have htd : (P : Int).tdiv (N : Int) = (T : Int) := by rw [Int.tdiv_eq_ediv_of_nonneg hP0]; exact hdiv
      have hNz : ¬ (N : Int) = 0 := by omega
      clear hP hT
      generalize atE R.length N i = T0 at *
      have hT8 : (T : Int) ≤ 8000 := by have := HT3.out; omega
      have hT0 : (0 : Int) ≤ (T : Int) := by omega
      obtain ⟨L, hL⟩ : ∃ L, (evenF R N i).length = L := ⟨_, rfl⟩
      have hL8 : (L : Int) ≤ 8 := by have := HEL.out; rw [hL] at this; omega
      rw [hL] at HF5 HEL ⊢
      have HL := Lib.hid hL
      clear hL
      rcases Nat.eq_zero_or_pos T with h0 | h0
      · have hg : decide (0 < T) = false := decide_eq_false (by omega)
        rw [if_pos (show T = T0 by have := HT4.out; omega)] at HEV
        clear h0
        go_wp2_with fail
        go_quiet (fail)
        go_wp2_with fail
        go_roundw
        case rel =>
          refine ⟨i + 1, A5, c5, hlt, by go_num, ?_, ?_, below_drewN HB5.out _⟩
          · rw [HEV.out, List.append_nil, HL.out]
          · rw [HEV.out, List.append_nil, HL.out]
            exact HF5.out
        case measure => simp [intOf]; omega
      · have hg : decide (0 < T) = true := decide_eq_true (by omega)
        have HTR := Lib.hid (HT2.out h0)
        have hs3 := (HF3.out.on HB5.out).sees
        rw [Nat.mul_one] at hs3
        obtain ⟨b, off, rfl, hb, hcell⟩ := hs3.txt HTR.out
        have HX := Lib.hid (show R.getD T ⟨#[]⟩ = R[T]'(HTR.out) by rw [List.getD_eq_getElem?_getD, List.getElem?_eq_getElem HTR.out]; rfl)
        obtain ⟨x, hx⟩ : ∃ x, R[T]'(HTR.out) = x := ⟨_, rfl⟩
        rw [hx] at HX hcell
        rw [HX.out] at HEV
        have htr : (T : Int) < (R.length : Int) := by have := HTR.out; omega
        have HXE := Lib.hid hx
        have H0 := Lib.hid h0
        clear hx hb hs3 h0
        -- what an append leaves
        have hm1 : L + 1 ≤ maxLen := Nat.le_trans (show L + 1 ≤ 9 by omega) (by decide)
        have hm2 : (L + 1) * 16 ≤ 140737488355328 := by omega
        have h1x : ∀ u ∈ [Value.string x], u.oneCell' = true := fun u hu => by rw [List.mem_singleton] at hu; subst hu; rfl
        rcases Nat.eq_zero_or_pos T0 with h2 | h2
        · have he := HLA.out.1 h2
          have hL0 : L = 0 := by rw [← HL.out, he]; rfl
          have hl0 : ((L : Int) == 0) = true := by rw [hL0]; rfl
          rw [if_neg (show ¬ T = T0 by have := H0.out; omega)] at HEV
          have HELN := Lib.hid (show (evenF R N (i + 1)).length = L + 1 by rw [HEV.out, List.length_append, HL.out]; rfl)
          have HETX := Lib.hid (show txs (evenF R N (i + 1)) = txs (evenF R N i) ++ [.string x] by rw [HEV.out, txs_append]; rfl)
          clear he hL0 h2 HLA HX
          have HF6 := Lib.hid (fun nq => (show FreeN 1 (wr.drewN nq) w3.heap.size 9 A5 L c5 (txs (evenF R N i)) from HF5.out).on ((Below.refl _ _).alloc (Nat.le_refl _) (.cells #[.string x] 9)))
          have HB6 := Lib.hid (fun nq => (below_drewN HB5.out nq).alloc HB5.out.size (.cells #[.string x] 9))
          have HZ6 := Lib.hid (fun nq => Nat.le_trans HB5.out.size (show wr.heap.size ≤ ((wr.drewN nq).alloc (.cells #[.string x] 9)).heap.size by simp))
          go_wp2_with fail
          go_quiet (fail)
          go_wp2_with (at_builtin; refine wpList_append_freeN (sz := 1) _ rfl (.tmp 42) (.tmp 47) _ rfl w3.heap.size 9 i0 _ 16 sl_txt hi0 hz0 hz1 hz2 rfl (by omega) A5 _ c5 _ rfl (HF6.out _) _ _ 1 1 [.string x] rfl (sees_new _ #[.string x] 9) h1x hm1 hm2 (HZ6.out _) ?_; intro A7 c7 w7 ha7)
          have HB7 := Lib.hid (ha7.below (HF6.out _) (HB6.out _) (HZ6.out _) (Nat.le_refl _))
          have HF7 := Lib.hid ha7.1
          go_roundw
          case rel =>
            refine ⟨i + 1, A7, c7, hlt, by go_num, ?_, ?_, HB7.out⟩
            · rw [HELN.out]
            · rw [HELN.out, HETX.out]
              exact HF7.out
          case measure => simp [intOf]; omega
        · obtain ⟨r, hr⟩ := HLA.out.2 h2
          obtain ⟨q, rfl⟩ : ∃ q, L = q + 1 := ⟨L - 1, by rw [← HL.out, hr, List.length_append]; simp⟩
          have hs5 := HF5.out.sees
          rw [Nat.mul_one] at hs5
          obtain ⟨b5, off5, rfl, hb5, hcell5⟩ := hs5.txt (k := q) (by rw [HL.out]; omega)
          have hz : (evenF R N i)[q]'(by rw [HL.out]; omega) = R.getD T0 ⟨#[]⟩ := by
            have hq : r.length = q := by have := HL.out; rw [hr, List.length_append] at this; simpa using this
            simp only [hr]
            rw [List.getElem_append_right (by omega)]
            simp
          rw [hz] at hcell5
          have hl0 : (((q + 1 : Nat) : Int) == 0) = false := by rw [beq_eq_false_iff_ne]; omega
          have hq1 : IntKind.i64.wrap (((q + 1 : Nat) : Int) - 1) = (q : Int) := by rw [IntKind.wrap_i64]; omega
          have hq2 : ((q + 1 : Nat) : Int) = (q : Int) + 1 := by omega
          have hq3 : IntKind.i64.wrap ((q : Int) + 1 - 1) = (q : Int) := by rw [IntKind.wrap_i64]; omega
          have hl1 : ((q : Int) + 1 == 0) = false := by rw [beq_eq_false_iff_ne]; omega
          have hq4 : (q : Int) < (q : Int) + 1 := by omega
          have hTT := HT4.out
          clear hs5 hz hr h2 HLA hb5
          by_cases hTe : T = T0
          · rw [if_pos hTe, List.append_nil] at HEV
            have hzx : R.getD T0 ⟨#[]⟩ = x := by rw [← hTe]; exact HX.out
            rw [hzx] at hcell5
            clear hTe hzx HX hTT
            go_wp2_with fail
            go_quiet (fail)
            go_wp2_with fail
            go_roundw
            case rel =>
              refine ⟨i + 1, some ⟨b5, off5, none⟩, c5, hlt, by go_num, ?_, ?_, below_drewN HB5.out _⟩
              · rw [HEV.out, HL.out]
              · rw [HEV.out, HL.out]
                exact HF5.out
            case measure => simp [intOf]; omega
          · rw [if_neg hTe] at HEV
            have hT0R : T0 < R.length := by have := HTR.out; omega
            have hne := str_ne (x := R.getD T0 ⟨#[]⟩) (y := x) (by
              rw [← HXE.out, List.getD_eq_getElem?_getD, List.getElem?_eq_getElem hT0R]
              exact ltS_ne (HRI.out.at_lt (i := T0) (j := T) (by omega) HTR.out))
            generalize R.getD T0 ⟨#[]⟩ = z at *
            have HELN := Lib.hid (show (evenF R N (i + 1)).length = q + 1 + 1 by rw [HEV.out, List.length_append, HL.out]; rfl)
            have HETX := Lib.hid (show txs (evenF R N (i + 1)) = txs (evenF R N i) ++ [.string x] by rw [HEV.out, txs_append]; rfl)
            clear hTe hT0R HX hTT
            have HF6 := Lib.hid (fun nq => (show FreeN 1 (wr.drewN nq) w3.heap.size 9 (some ⟨b5, off5, none⟩) (q + 1) c5 (txs (evenF R N i)) from HF5.out).on ((Below.refl _ _).alloc (Nat.le_refl _) (.cells #[.string x] 9)))
            have HB6 := Lib.hid (fun nq => (below_drewN HB5.out nq).alloc HB5.out.size (.cells #[.string x] 9))
            have HZ6 := Lib.hid (fun nq => Nat.le_trans HB5.out.size (show wr.heap.size ≤ ((wr.drewN nq).alloc (.cells #[.string x] 9)).heap.size by simp))
            go_wp2_with fail
            go_quiet (fail)
            go_wp2_with (at_builtin; refine wpList_append_freeN (sz := 1) _ rfl (.tmp 42) (.tmp 47) _ rfl w3.heap.size 9 i0 _ 16 sl_txt hi0 hz0 hz1 hz2 rfl (by omega) (some ⟨b5, off5, none⟩) _ c5 _ rfl (HF6.out _) _ _ 1 1 [.string x] rfl (sees_new _ #[.string x] 9) h1x hm1 hm2 (HZ6.out _) ?_; intro A7 c7 w7 ha7)
            have HB7 := Lib.hid (ha7.below (HF6.out _) (HB6.out _) (HZ6.out _) (Nat.le_refl _))
            have HF7 := Lib.hid ha7.1
            go_roundw
            case rel =>
              refine ⟨i + 1, A7, c7, hlt, by go_num, ?_, ?_, HB7.out⟩
              · rw [HELN.out]
              · rw [HELN.out, HETX.out]
                exact HF7.out
            case measure => simp [intOf]; omega
    · have hge : ¬ (i : Int) + 1 < (N : Int) := by omega
      have hni : N - 1 = i := by omega
      have HNI := Lib.hid hni
      clear hni
      go_wp2_with fail
      go_ret
      refine ⟨R, A5, c5, HRI.out, HMR.out, ?_, ?_, HB3.out.trans (HB5.out.mono HB3.out.size)⟩
      · rw [HNI.out]
        rfl
      · rw [HNI.out]
        exact HF5.out.mono HB3.out.size
end Go.Proofs.Ytgioaapflilhhab
