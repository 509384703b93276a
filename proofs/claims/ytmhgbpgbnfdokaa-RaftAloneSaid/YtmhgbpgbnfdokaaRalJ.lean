/- RaftAlone: a node alone leads behind its timeout, and commits whatever is proposed at once, in order. For every input, without a condition. -/
import Derived.Test.YtmhgbpgbnfdokaaRows
import Derived.ProofKit
import Derived.OpenShut
import Derived.Test.YtmhgbpgbnfdokaaJ13
import Derived.Test.YtmhgbpgbnfdokaaJ14
namespace Go.Proofs.Ytmhgbpgbnfdokaa.raftAlone
open Go.ChangeShapes Go.WideShapes Go.ChangeAt Go.RowKit
set_option linter.unusedVariables false

theorem own : ownKnob Try.prog.godebug = none := by kernel_rfl
theorem laidOut : laidOutB Try.prog = true := by kernel_rfl

/-- the log behind the first k proposals -/
def logK (l : List ByteArray) (k : Nat) : List Ent := ⟨1, ⟨#[]⟩⟩ :: (l.take k).map (fun s => ⟨1, s⟩)
theorem logK_length (l : List ByteArray) (k : Nat) (hk : k ≤ l.length) : (logK l k).length = k + 1 := by simp [logK]; omega
theorem logK_succ (l : List ByteArray) (k : Nat) (hk : k < l.length) : logK l k ++ [⟨1, l[k]⟩] = logK l (k + 1) := by
  unfold logK
  rw [List.take_add_one, List.getElem?_eq_getElem hk, List.cons_append, List.map_append]
  rfl
theorem logK_ones (l : List ByteArray) (k : Nat) : ∀ e ∈ logK l k, e.t = 1 := by
  intro e he
  unfold logK at he
  rcases List.mem_cons.1 he with rfl | he
  · rfl
  · obtain ⟨s, _, rfl⟩ := List.mem_map.1 he
    rfl
theorem logK_commit (E : Int) (l : List ByteArray) (k : Nat) (hk : k < l.length) : committedF (leadsF E (logK l (k + 1))) ((k : Int) + 2) = [⟨1, l[k]⟩] := by
  have hc : (leadsF E (logK l (k + 1))).commit = (k : Int) + 2 := by
    show (((logK l (k + 1)).length : Nat) : Int) = _
    rw [logK_length l (k + 1) hk]
    omega
  have hlog : (leadsF E (logK l (k + 1))).log = logK l (k + 1) := rfl
  unfold committedF
  rw [hc, hlog]
  unfold fromF fromN
  rw [logK_length l (k + 1) hk]
  have h1 : (min (max (max ((k : Int) + 2) 1) 1 - 1) ((k + 1 + 1 : Nat) : Int)).toNat = k + 1 := by omega
  have h2 : (min (max ((k : Int) + 2 - max ((k : Int) + 2) 1 + 1) 0) (((k + 1 + 1 : Nat) : Int) - min (max (max ((k : Int) + 2) 1) 1 - 1) ((k + 1 + 1 : Nat) : Int))).toNat = 1 := by omega
  simp only [h1, h2]
  rw [← logK_succ l k hk, List.drop_append_of_le_length (by rw [logK_length l k (by omega)]; omega), List.drop_of_length_le (by rw [logK_length l k (by omega)]; omega)]
  rfl

set_option maxRecDepth 100000 in
set_option maxHeartbeats 1600000 in
theorem walk (e16 d32 : Nat) (A : Option Addr) (n c : Nat) (l : List ByteArray) (w : World) (he : e16 < 65536) (hd : d32 < 4294967296) (hs : Sees w w.heap.size A n (l.map Value.string)) (hl : l.length = n) (hn : n ≤ maxLen) :
    Calls Try.prog 7 #[.int .u16 (e16 : Int), .int .u32 (d32 : Int), .slice A n c] w fun e w' => e = .returned (.bool true) ∧ Below w.heap.size w w' := by
  have HF := Lib.hid (fixed8_any w)
  by_cases h60 : (60 : Int) < (n : Int)
  · clear hs hl hn he hd
    go_enter Try.func7, Try.ntmps7
    go_wp2_with fail
    refine HF.out.mono ?_
    rintro e w1 ⟨rfl, hb1⟩
    go_wp2_with fail
    go_ret
    exact ⟨rfl, hb1⟩
  · have HN := Lib.hid (show n ≤ 60 by omega)
    have HS := Lib.hid hs
    have HL := Lib.hid hl
    obtain ⟨q, hq⟩ : ∃ q : Nat, e16 % 1000 = q := ⟨_, rfl⟩
    have hq2 : q < 1000 := by omega
    have HQ := Lib.hid hq2
    have hm1 : ((e16 : Int) % 1000) = (q : Int) := by omega
    have hm2 : ((e16 : Int).tmod 1000) = (q : Int) := by rw [Int.tmod_eq_emod_of_nonneg (by omega)]; omega
    have hm3 : IntKind.u16.wrap (q : Int) = (q : Int) := by rw [IntKind.wrap_u16]; omega
    have hm4 : IntKind.i64.wrap (q : Int) = (q : Int) := wr_i64 (by omega) (by omega)
    have hm5 : IntKind.i64.wrap (1 + (q : Int)) = 1 + (q : Int) := wr_i64 (by omega) (by omega)
    clear hs hl hn he
    go_enter Try.func7, Try.ntmps7
    go_wp2_with fail
    refine HF.out.mono ?_
    rintro e w1 ⟨rfl, hb1⟩
    go_wp2_with fail
    refine (nNew_any 0 1 (1 + (q : Int)) 1 ⟨0, -1, []⟩ none 0 0 w1 (Ents.nil _ _ _) rfl (by omega) (by decide) (by decide) (by decide) (by omega) (by omega)).mono ?_
    rintro e w2 ⟨g, S2, rfl, hx2, hb2⟩
    obtain ⟨r, hr⟩ : ∃ r : Nat, (d32 : Int) % (1 + (q : Int)) = (r : Int) := ⟨((d32 : Int) % (1 + (q : Int))).toNat, by have := Int.emod_nonneg (d32 : Int) (show (1 + (q : Int)) ≠ 0 by omega); omega⟩
    have hr2 : (r : Int) < 1 + (q : Int) := by rw [← hr]; exact Int.emod_lt_of_pos _ (by omega)
    have hr3 : (d32 : Int).tmod (1 + (q : Int)) = (r : Int) := by rw [Int.tmod_eq_emod_of_nonneg (by omega)]; exact hr
    have hq0 : ¬ (1 + (q : Int)) = 0 := by omega
    have hq1 : ¬ (1 + (q : Int)) = -1 := by omega
    have hm6 : IntKind.i64.wrap (d32 : Int) = (d32 : Int) := wr_i64 (by omega) (by omega)
    have hm7 : IntKind.i64.wrap (1 + (q : Int) + (r : Int)) = 1 + (q : Int) + (r : Int) := wr_i64 (by omega) (by omega)
    have HR := Lib.hid (And.intro hr hr2)
    have HB2 := Lib.hid (bthen hb1 hb2)
    have HX2 := Lib.hid (show NodeAt w2 w1.heap.size g (aloneF (1 + (q : Int)) 0) S2 from hx2)
    have HZ := Lib.hid hb2.size
    have HLE := Lib.hid hb1.size
    clear hm1 hm2 hm3 hm4 hm5 hb1 hb2 hx2 hr2
    obtain ⟨T, hT⟩ : ∃ T : Nat, 1 + q + r = T := ⟨_, rfl⟩
    have hTc : 1 + (q : Int) + (r : Int) = (T : Int) := by omega
    have HTT := Lib.hid (And.intro hT (show (T : Int) ≤ 2000 by have := HR.out.2; omega))
    rw [hTc] at hm7
    clear hT hq
    go_upto_region 10 with (fail)
    clear hTc hr hr3 hq0 hq1 hm7
    go_upto_region 11 with (fail)
    go_loopw [41] (fun iv wr => ∃ k : Nat, k ≤ T ∧ iv = .int .i64 (k : Int) ∧ (∃ S, NodeAt wr w1.heap.size g (if k < T then aloneF (1 + (q : Int)) (k : Int) else leadsF (1 + (q : Int)) [⟨1, ⟨#[]⟩⟩]) S) ∧ Below w.heap.size w wr ∧ w1.heap.size ≤ wr.heap.size) (fun iv _ => T - (intOf iv).toNat)
    case atStart => exact ⟨0, Nat.zero_le _, rfl, ⟨S2, by rw [if_pos (by have := HTT.out; omega)]; exact HX2.out⟩, HB2.out, HZ.out⟩
    case round =>
      obtain ⟨k, hk, rfl, ⟨S, hx⟩, hbel, hsz⟩ := hrel
      by_cases hlt : k < T
      · rw [if_pos hlt] at hx
        have hlt' : (k : Int) < (T : Int) := by omega
        have hk2 : (k : Int) ≤ 2000 := by have := HTT.out.2; omega
        have HRO := Lib.hid (nRole_any _ g _ S wr hx (show (0 : Int) < 1 by omega))
        have HTE := Lib.hid (nTerm_any _ g _ S wr hx (show (0 : Int) < 1 by omega))
        have HTI := Lib.hid (tick_any _ g _ (d32 : Int) S wr hx (show (0 : Int) < 1 by omega) (show (0 : Int) < 1 + (q : Int) by omega) (show 1 + (q : Int) ≤ 1099511627776 by have := HQ.out; omega) (show (0 : Int) ≤ (k : Int) by omega) (show (k : Int) ≤ 1099511627776 by omega) (show 0 < 128 by omega) (show (0 : Int) ≤ 0 by omega) (show (0 : Int) < 1 by omega) (show (1 : Int) ≤ 7 by omega) (show (0 : Int) ≤ 0 by omega) (show (0 : Int) < 1 by omega) (show 0 ≤ 1048000 by omega) hsz (show 0 ≤ 999980 by omega) (fun h => absurd h (show ¬ (0 : Int) = 3 by omega)) (fun h => absurd h (show ¬ (0 : Int) = 3 by omega)))
        have HX := Lib.hid hx
        have HBE := Lib.hid (And.intro hbel hsz)
        have HK := Lib.hid hlt
        have hmx : max (d32 : Int) 0 = (d32 : Int) := by omega
        have hw9 : IntKind.i64.wrap ((T : Int) - 1) = (T : Int) - 1 := wr_i64 (by have := HTT.out.2; omega) (by have := HTT.out.2; omega)
        have hw8 : wrap64 ((T : Int) - 1) = (T : Int) - 1 := wr_64 (by have := HTT.out.2; omega) (by have := HTT.out.2; omega)
        clear hx hbel hsz hk hlt
        by_cases hnx : k + 1 < T
        · have htk : tickF (aloneF (1 + (q : Int)) (k : Int)) (d32 : Int) = aloneF (1 + (q : Int)) ((k : Int) + 1) := alone_wait _ _ _ (by rw [hmx, HR.out.1]; have := HTT.out.1; omega)
          rw [htk] at HTI
          have hq1 : ((k : Int) == (T : Int) - 1) = false := by rw [beq_eq_false_iff_ne]; omega
          have HNX := Lib.hid hnx
          clear htk hmx hnx
          go_wp2_with fail
          refine HRO.out.mono ?_
          rintro e w3 ⟨rfl, rfl⟩
          go_wp2_with fail
          refine HTE.out.mono ?_
          rintro e w4 ⟨rfl, rfl⟩
          go_wp2_with fail
          refine HTI.out.mono ?_
          rintro e w5 ⟨rfl, hm⟩
          obtain ⟨S5, hx5, hb5⟩ := hm.step (Nat.le_refl _) HBE.out.1 HX.out (by have := HLE.out; exact this)
          have HX5 := Lib.hid hx5
          have HRO5 := Lib.hid (nRole_any _ g _ S5 w5 hx5 (show (0 : Int) < 1 by omega))
          have HB5 := Lib.hid hb5
          have HZ5 := Lib.hid (Nat.le_trans HBE.out.2 (show _ ≤ w5.heap.size from by obtain ⟨_, _, ht, _⟩ := hm; exact ht.size))
          clear hm hx5 hb5 HRO HTE HTI
          go_wp2_with fail
          refine HRO5.out.mono ?_
          rintro e w6 ⟨rfl, rfl⟩
          go_wp2_with fail
          go_roundw
          case rel => exact ⟨k + 1, HK.out, by go_num, ⟨S5, by rw [if_pos HNX.out]; exact HX5.out⟩, HB5.out, HZ5.out⟩
          case measure => have := HK.out; simp [intOf]; omega
        · have htk : tickF (aloneF (1 + (q : Int)) (k : Int)) (d32 : Int) = leadsF (1 + (q : Int)) [⟨1, ⟨#[]⟩⟩] := alone_lead _ _ _ (by rw [hmx, HR.out.1]; have := HTT.out.1; omega)
          rw [htk] at HTI
          have hq1 : ((k : Int) == (T : Int) - 1) = true := by rw [beq_iff_eq]; omega
          have HNX := Lib.hid hnx
          clear htk hmx hnx
          go_wp2_with fail
          refine HRO.out.mono ?_
          rintro e w3 ⟨rfl, rfl⟩
          go_wp2_with fail
          refine HTE.out.mono ?_
          rintro e w4 ⟨rfl, rfl⟩
          go_wp2_with fail
          refine HTI.out.mono ?_
          rintro e w5 ⟨rfl, hm⟩
          obtain ⟨S5, hx5, hb5⟩ := hm.step (Nat.le_refl _) HBE.out.1 HX.out (by have := HLE.out; exact this)
          have HX5 := Lib.hid hx5
          have HRO5 := Lib.hid (nRole_any _ g _ S5 w5 hx5 (show (0 : Int) < 1 by omega))
          have HB5 := Lib.hid hb5
          have HZ5 := Lib.hid (Nat.le_trans HBE.out.2 (show _ ≤ w5.heap.size from by obtain ⟨_, _, ht, _⟩ := hm; exact ht.size))
          clear hm hx5 hb5 HRO HTE HTI
          go_wp2_with fail
          refine HRO5.out.mono ?_
          rintro e w6 ⟨rfl, rfl⟩
          go_wp2_with fail
          go_roundw
          case rel => exact ⟨k + 1, HK.out, by go_num, ⟨S5, by rw [if_neg HNX.out]; exact HX5.out⟩, HB5.out, HZ5.out⟩
          case measure => have := HK.out; simp [intOf]; omega
      · have hlt' : ¬ (k : Int) < (T : Int) := by omega
        rw [if_neg hlt] at hx
        have HX := Lib.hid hx
        have HBE := Lib.hid (And.intro hbel hsz)
        clear hx hbel hsz hk hlt HX2 HB2 HZ hm6
        go_upto_region 20 with (fail)
        clear hlt'
        go_loopw [67] (fun iv wr => ∃ k : Nat, k ≤ n ∧ iv = .int .i64 (k : Int) ∧ (∃ S, NodeAt wr w1.heap.size g (leadsF (1 + (q : Int)) (logK l k)) S) ∧ Below w.heap.size w wr ∧ w1.heap.size ≤ wr.heap.size) (fun iv _ => n - (intOf iv).toNat)
        case atStart => exact ⟨0, Nat.zero_le _, rfl, ⟨S, HX.out⟩, HBE.out.1, HBE.out.2⟩
        case round =>
          obtain ⟨k2, hk, rfl, ⟨S3, hx⟩, hbel, hsz⟩ := hrel
          by_cases hlt : k2 < n
          · have hlt' : (k2 : Int) < (n : Int) := by omega
            have hkl : k2 < l.length := by rw [HL.out]; exact hlt
            obtain ⟨b, off, hA, hbw, hc⟩ := HS.out.2 (by omega)
            subst hA
            obtain ⟨s, hsx⟩ : ∃ s, l[k2] = s := ⟨_, rfl⟩
            have c0 := hc k2 (.string s) (by rw [List.getElem?_map, List.getElem?_eq_getElem hkl, hsx]; rfl)
            have c0' := (hbel.cell (p := ⟨b, off + k2, none⟩) hbw).trans c0
            have hk60 : (k2 : Int) ≤ 60 := by have := HN.out; omega
            have HK := Lib.hid hlt
            have hln := logK_length l k2 (by omega)
            have hln2 := logK_length l (k2 + 1) (by omega)
            by_cases hs5 : (512 : Int) < (s.size : Int)
            · have HBE2 := Lib.hid hbel
              clear hx hbel hsz hk hlt hc c0 hln hln2
              go_wp2_with fail
              go_ret
              exact ⟨rfl, HBE2.out⟩
            · have HPR := Lib.hid (propose_any _ g _ s S3 wr hx (show (0 : Int) < 1 by omega) (show (1 : Int) ≤ 7 by omega) (show (0 : Int) ≤ 0 by omega) (show (0 : Int) < 1 by omega) (show (logK l k2).length ≤ 1048000 by omega) hsz (show 0 ≤ 999980 by omega) (fun _ => rfl) (fun _ p hp => by rw [List.mem_singleton.1 hp]; exact ⟨by simp only; omega, by simp only; omega⟩))
              have hap := alone_propose (1 + (q : Int)) (logK l k2) s (logK_ones l k2) (by omega) (by omega) (by omega)
              have hsu := logK_succ l k2 hkl
              rw [hsx] at hsu
              rw [hsu, hln] at hap
              rw [hap] at HPR
              have hcm := logK_commit (1 + (q : Int)) l k2 hkl
              rw [hsx] at hcm
              have HCM := Lib.hid hcm
              have hi2 : ((k2 + 1 + 1 : Nat) : Int) = (k2 : Int) + 2 := by omega
              simp only at HPR
              rw [hi2] at HPR
              have HX3 := Lib.hid hx
              have HBE2 := Lib.hid (And.intro hbel hsz)
              have HLN := Lib.hid hln2
              have hw1 : IntKind.i64.wrap ((k2 : Int) + 2) = (k2 : Int) + 2 := wr_i64 (by omega) (by omega)
              have hw2 : wrap64 ((k2 : Int) + 2) = (k2 : Int) + 2 := wr_64 (by omega) (by omega)
              clear hx hbel hsz hk hlt hc c0 hln hln2 hap hsu hcm hi2 hsx hkl
              go_wp2_with fail
              refine HPR.out.mono ?_
              rintro e w5 ⟨rfl, hm⟩
              obtain ⟨S5, hx5, hb5⟩ := hm.step (Nat.le_refl _) HBE2.out.1 HX3.out HLE.out
              have hz5 := Nat.le_trans HBE2.out.2 (show _ ≤ w5.heap.size from by obtain ⟨_, _, ht, _⟩ := hm; exact ht.size)
              have HCC := nCommitted_any _ g _ ((k2 : Int) + 2) S5 w5 hx5 (show (0 : Int) < 1 by omega) (show (logK l (k2 + 1)).length ≤ 1048576 by rw [HLN.out]; omega) (show (0 : Int) ≤ ((logK l (k2 + 1)).length : Int) by omega) (show ((logK l (k2 + 1)).length : Int) ≤ 4611686018427387904 by rw [HLN.out]; omega) (by omega)
              rw [HCM.out] at HCC
              have HCC := Lib.hid HCC
              have HX5 := Lib.hid hx5
              have HB5 := Lib.hid (And.intro hb5 hz5)
              clear hm hx5 hb5 hz5 HPR
              go_wp2_with fail
              refine HCC.out.mono ?_
              rintro e w6 ⟨A6, n6, c6, rfl, hn6, hf6, hb6⟩
              have hn1 : n6 = 1 := hn6.symm
              subst hn1
              obtain ⟨br, offr, rfl, _, r0, r1⟩ := Ents.at_ (es := [⟨1, s⟩]) hf6.sees (j := 0) (by simp)
              have r0' : w6.cell? ⟨br, offr, none⟩ = some (.int .i64 1) := r0
              have r1' : w6.cell? ⟨br, offr + 1, none⟩ = some (.string s) := r1
              have HX6 := Lib.hid (HX5.out.on hb6)
              have HB6 := Lib.hid (And.intro (bthen HB5.out.1 hb6) (Nat.le_trans HB5.out.2 hb6.size))
              have HCO := nCommit_any _ g _ S5 w6 HX6.out (show (0 : Int) < 1 by omega)
              rw [show (leadsF (1 + (q : Int)) (logK l (k2 + 1))).commit = (k2 : Int) + 2 from by show ((logK l (k2 + 1)).length : Int) = _; rw [HLN.out]; omega] at HCO
              have HCO := Lib.hid HCO
              clear r0 r1 hn6 hf6 hb6 HCC
              go_wp2_with fail
              refine HCO.out.mono ?_
              rintro e w7 ⟨rfl, rfl⟩
              go_wp2_with fail
              go_roundw
              case rel => exact ⟨k2 + 1, HK.out, by go_num, ⟨S5, HX6.out⟩, HB6.out.1, HB6.out.2⟩
              case measure => have := HK.out; simp [intOf]; omega
          · have hlt' : ¬ (k2 : Int) < (n : Int) := by omega
            have HX3 := Lib.hid hx
            have HOU := Lib.hid (nOut_any _ g _ S3 wr hx (show (0 : Int) < 1 by omega))
            have HBE2 := Lib.hid (And.intro hbel hsz)
            clear hx hbel hsz hk hlt
            go_wp2_with fail
            refine HOU.out.mono ?_
            rintro e w5 ⟨A5, c5, ml, S5, rfl, hml, _, _, hx5, ht5, _, _⟩
            have hm0 : ml = [] := List.map_eq_nil_iff.1 hml
            subst hm0
            have HB5 := Lib.hid (HBE2.out.1.trans (ht5.below HBE2.out.1.size (fun i hi => Nat.le_trans HLE.out (HX3.out.base_has i hi))))
            have HLD := Lib.hid (nLeader_any _ g _ S5 w5 hx5 (show (0 : Int) < 1 by omega))
            clear hml hx5 ht5
            go_wp2_with fail
            refine HLD.out.mono ?_
            rintro e w6 ⟨rfl, rfl⟩
            go_wp2_with fail
            go_ret
            exact ⟨rfl, HB5.out⟩

set_option maxRecDepth 100000 in
theorem lifted (os : Os) (started : os.Started) (H : Type) (enc : TypeId × Value → H) :
    ReturnsInHanded {} Try.checked os 7 .any (Rows.raftAloneSpec.pre6 enc Try.prog Try.f7 Rows.raftAloneRow.domain false) (Rows.raftAloneSpec.post enc Try.prog Try.f7 false true false false) := by
  refine returnsInHanded_of_change (C := Try.checked) own started (by kernel_rfl) Try.func7
    (ChangeSpec.witness6 (enc := enc) (C := Try.checked) false ⟨#[], #[.int .u16 0, .int .u32 0, .slice none 0 0], []⟩ 8 (by kernel_rfl) (by kernel_rfl) (by kernel_rfl) (by kernel_rfl)) ?_
  intro W base args ds gs before hval0 hW hcnd _
  have hval : ∀ (j : Nat) t v, Try.f7.params[j]? = some t → args[j]? = some v → Value.okWide Try.prog W .any base t v := hval0
  have hW' := hW
  obtain ⟨p, q, hA0, hV, rfl, hfz, hnd⟩ := hW
  have hA : DataW.TrodAll enc Try.prog W 0 (fun _ => true) true Try.f7.params.toList args.toList ds p := hA0
  rw [Try.params7] at hA hval
  obtain ⟨v0, vs0, d0, ds0, p0, q0, hargs, rfl, rfl, h0, r0⟩ := trodAll_cons hA
  obtain ⟨v1, vs1, d1, ds1, p1, q1, rfl, rfl, rfl, h1, r1⟩ := trodAll_cons r0
  obtain ⟨v2, vs2, d2, ds2, p2, q2, rfl, rfl, rfl, h2, r2⟩ := trodAll_cons r1
  obtain ⟨rfl, rfl, rfl⟩ := trodAll_nil r2
  obtain rfl : args = #[v0, v1, v2] := by cases args; simp_all
  obtain ⟨rfl, rfl⟩ := trodVars_none hV
  obtain ⟨a0, rfl, rfl, rfl, w0⟩ := open_int Try.underlying79 (hval 0 79 v0 rfl rfl) h0
  obtain ⟨a1, rfl, rfl, rfl, w1⟩ := open_int Try.underlying80 (hval 1 80 v1 rfl rfl) h1
  obtain ⟨a2, len2, cap2, rfl⟩ := okWide_slice Try.underlying81 (hval 2 81 v2 rfl rfl)
  have k2 := h2
  have lt2 : ∀ x ∈ p2, x.block < W.heap.size := by obtain ⟨m, hm⟩ := k2; exact DataW.trod_lt m _ _ _ hm
  obtain ⟨m2, h2⟩ := h2
  obtain ⟨hl2, hc2, l, hll, hs⟩ := open_strs h2
  have b0 : 0 ≤ a0 ∧ a0 ≤ 65535 := bounds_u16 w0
  have b1 : 0 ≤ a1 ∧ a1 ≤ 4294967295 := bounds_u32 w1
  obtain ⟨n0, hn0⟩ : ∃ n : Nat, a0 = n := ⟨a0.toNat, by omega⟩
  subst hn0
  obtain ⟨n1, hn1⟩ : ∃ n : Nat, a1 = n := ⟨a1.toNat, by omega⟩
  subst hn1
  clear hA0 hval0
  simp only [List.append_nil, List.nil_append] at hW'
  refine (walk n0 n1 a2 len2 cap2 l W (by omega) (by omega) hs hll (Nat.le_trans hl2 hc2)).mono fun e W' ⟨he, bel⟩ => ?_
  subst he
  exact ⟨_, rfl, _, _, _, [], _, [], hW', trodAll_mk1 (shut_bool Try.underlying4 _), (trodAll_cons_mk (shut_int Try.underlying79 w0) (trodAll_cons_mk (shut_int Try.underlying80 w1) (trodAll_cons_mk (Below.trod laidOut (by kernel_rfl) (of_decide_eq_true (by kernel_rfl)) k2 bel lt2) trodAll_mk0))), rfl, bel.frame _, fun h => by cases h⟩

theorem over : Rows.raftAloneRow.holds Try.pinned (OpenSpec.ofChange Rows.raftAloneSpec) :=
  OpenClaim.holds_of_wide 7 Try.f7 rfl rfl rfl rfl rfl rfl rfl ⟨rfl, rfl, rfl, rfl, rfl⟩ rfl rfl rfl rfl rfl (by kernel_rfl) Try.func7 (by kernel_rfl)
    (of_decide_eq_true (by kernel_rfl)) (by unfold Func.isWrapper; first | (rw [if_pos (by decide +kernel)]; kernel_rfl) | (rw [if_neg (by decide +kernel)]; exact ⟨rfl, rfl⟩))
    (fun os started H enc _ => lifted os started H enc)

theorem proved : Rows.RaftAloneSaid :=
  over
#print axioms proved
end Go.Proofs.Ytmhgbpgbnfdokaa.raftAlone
