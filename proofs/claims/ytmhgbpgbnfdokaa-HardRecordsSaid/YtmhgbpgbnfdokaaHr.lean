/- HardRecords: any save's records are the document's. For every input, without a condition. -/
import Derived.Test.YtmhgbpgbnfdokaaRows
import Derived.Test.YtmhgbpgbnfdokaaFix6
import Derived.Test.YtmhgbpgbnfdokaaHdR
import Derived.Test.YtmhgbpgbnfdokaaOpen6
import Derived.ProofKit
import Derived.OpenShut
namespace Go.Proofs.Ytmhgbpgbnfdokaa.hardRecords
open Go.ChangeShapes Go.WideShapes Go.ChangeAt Go.RowKit
set_option linter.unusedVariables false

theorem own : ownKnob Try.prog.godebug = none := by kernel_rfl
theorem laidOut : laidOutB Try.prog = true := by kernel_rfl

theorem few_true {s : SvP} (h : fewF s = true) : s.es.length ≤ 12 ∧ ∀ x ∈ s.es, x.s.size ≤ 600 := by
  unfold fewF at h
  rw [Bool.and_eq_true, List.all_eq_true, decide_eq_true_iff] at h
  exact ⟨h.2, fun x hx => by simpa using h.1 x hx⟩

set_option maxRecDepth 100000 in
set_option maxHeartbeats 3200000 in
theorem walk (s : SvP) (A : Option Addr) (n c : Nat) (w : World) (hs : Ents w w.heap.size A s.es) (hl : s.es.length = n) (hn : n ≤ 9223372036854775807) :
    Calls Try.prog 4 #[.agg #[.bool s.hard, .int .i64 s.t, .int .i64 s.v, .int .i64 s.f, .slice A n c]] w fun e w' => e = .returned (.bool true) ∧ Below w.heap.size w w' := by
  have hA := Blk.new w 41 #[.bool s.hard, .int .i64 s.t, .int .i64 s.v, .int .i64 s.f, .slice A n c]
  have hb0 := (Below.refl w.heap.size w).alloc (Nat.le_refl _) (.cells #[.bool s.hard, .int .i64 s.t, .int .i64 s.v, .int .i64 s.f, .slice A n c] 41)
  have hs0 : Ents (w.alloc (.cells #[.bool s.hard, .int .i64 s.t, .int .i64 s.v, .int .i64 s.f, .slice A n c] 41)) (w.alloc (.cells #[.bool s.hard, .int .i64 s.t, .int .i64 s.v, .int .i64 s.f, .slice A n c] 41)).heap.size A s.es := Sees.on hs hb0
  have HC := Lib.hid (fun (W : World) (hW : Below (w.alloc (.cells #[.bool s.hard, .int .i64 s.t, .int .i64 s.v, .int .i64 s.f, .slice A n c] 41)).heap.size (w.alloc (.cells #[.bool s.hard, .int .i64 s.t, .int .i64 s.v, .int .i64 s.f, .slice A n c] 41)) W) =>
    have hk := hA.below hW hA.lt
    (⟨by rw [hk.cell]; rfl, by rw [hk.cell]; rfl, by rw [hk.cell]; rfl, by rw [hk.cell]; rfl, by rw [hk.cell]; rfl⟩ : W.cell? ⟨w.heap.size, 0, none⟩ = some (.bool s.hard) ∧ W.cell? ⟨w.heap.size, 1, none⟩ = some (.int .i64 s.t) ∧ W.cell? ⟨w.heap.size, 2, none⟩ = some (.int .i64 s.v) ∧ W.cell? ⟨w.heap.size, 3, none⟩ = some (.int .i64 s.f) ∧ W.cell? ⟨w.heap.size, 4, none⟩ = some (.slice A n c)))
  have HS0 := Lib.hid hs0
  have HB0 := Lib.hid hb0
  have HL := Lib.hid hl
  have HN := Lib.hid hn
  clear hA hs hs0 hb0 hl hn
  go_enter Try.func4, Try.ntmps4
  go_wp2_with fail
  generalize w.alloc (.cells #[.bool s.hard, .int .i64 s.t, .int .i64 s.v, .int .i64 s.f, .slice A n c] 41) = w0 at *
  refine (fixed6_any _).mono ?_
  rintro e w1 ⟨rfl, hb1⟩
  have HB1 := Lib.hid hb1
  obtain ⟨c0, c1, c2, c3, c4⟩ := HC.out _ hb1
  clear hb1
  go_wp2_with fail
  refine (few_any s A n c w1 (Sees.on HS0.out HB1.out) HL.out HN.out).mono ?_
  rintro e w2 ⟨rfl, hb2⟩
  have HB2 := Lib.hid (bthen HB1.out hb2)
  clear c0 c1 c2 c3 c4 hb2
  obtain ⟨c0, c1, c2, c3, c4⟩ := HC.out _ HB2.out
  cases hfew : fewF s with
  | false =>
    go_wp2_with fail
    go_ret
    exact ⟨rfl, HB0.out.trans (HB2.out.mono HB0.out.size)⟩
  | true =>
    obtain ⟨hn12, h600⟩ := few_true hfew
    have HS2 := Lib.hid (show Ents w2 w2.heap.size A s.es from Sees.on HS0.out HB2.out)
    have hn12' : n ≤ 12 := by have := HL.out; omega
    have q1 : ∀ W, Below w2.heap.size w2 W → Calls Try.prog 18 #[.agg #[.bool s.hard, .int .i64 s.t, .int .i64 s.v, .int .i64 s.f, .slice A n c]] W (RecordsRet W (recordsF s)) := fun W hW => records_any s A n c W (Sees.on HS2.out hW) HL.out (by omega) (fun x hx => by have := h600 x hx; omega)
    have q3 : ∀ W, Below w2.heap.size w2 W → Calls Try.prog 19 #[.agg #[.bool s.hard, .int .i64 s.t, .int .i64 s.v, .int .i64 s.f, .slice A n c]] W (PlainRet W (recordsF s)) := fun W hW => refRecords_any s A n c W (Sees.on HS2.out hW) HL.out (by omega)
    have Q1 := Lib.hid q1
    have Q3 := Lib.hid q3
    have HRL := Lib.hid (show (recordsF s).length ≤ 13 by rw [recordsF_length, HL.out]; split <;> omega)
    have HBB : Hid (Below w2.heap.size w2 w2.drew) := Lib.hid (Below.refl w2.heap.size w2).drew
    clear q1 q3 hn12 h600 hn12' hfew
    go_upto_region 5 with (fail)
    go_cut [3, 4] (fun va vb wx => ∃ A1 k1 A2 k2, va = .slice A1 (recordsF s).length k1 ∧ vb = .slice A2 (recordsF s).length k2 ∧ Toks wx wx.heap.size A1 (recordsF s) ∧ Toks wx wx.heap.size A2 (recordsF s) ∧ Below w2.heap.size w2 wx)
    case first =>
      go_region_law (first
        | (refine step_calls rfl 18 (.tmp 11) 41 rfl Try.func18 (by kernel_rfl) rfl (.agg #[.bool s.hard, .int .i64 s.t, .int .i64 s.v, .int .i64 s.f, .slice A n c]) (by rfl) _ (Q1.out _ HBB.out) ?_
           rintro e wx ⟨A1, n1, k1, rs, rfl, hrs, hown, hbx⟩
           refine ⟨_, rfl, ?_⟩
           have HR1 := Lib.hid (show Recs wx wx.heap.size A1 rs ∧ rs.length = n1 ∧ rs.map RecP.m = recordsF s from ⟨hown.recs, hown.2.1, hrs⟩)
           have HB9 := Lib.hid (Below.refl wx.heap.size wx)
           try have HT2 := Lib.hid ((HT2.out).on hbx)
           have hby := bthen HBB.out hbx
           have HBB := Lib.hid hby
           obtain ⟨c0, c1, c2, c3, c4⟩ := HC.out _ (bthen HB2.out hby)
           clear hby hbx hown hrs)
        | (refine step_calls rfl 13 (.tmp 12) 22 rfl Try.func13 (by kernel_rfl) rfl (.slice A1 n1 k1) (by rfl) _ (plain_any A1 n1 k1 rs _ (HR1.out.1) HR1.out.2.1 (by have h1 := HR1.out.2.1; have h2 := congrArg List.length HR1.out.2.2; rw [List.length_map] at h2; have h3 := HRL.out; omega)) ?_
           rintro e wx ⟨A5, k5, rfl, hown, hbx⟩
           refine ⟨_, rfl, ?_⟩
           rw [HR1.out.2.2] at hown ⊢
           have HT1 := Lib.hid hown.sees
           try have HT2 := Lib.hid ((HT2.out).on hbx)
           have hby := bthen HBB.out hbx
           have HBB := Lib.hid hby
           obtain ⟨c0, c1, c2, c3, c4⟩ := HC.out _ (bthen HB2.out hby)
           clear hby hbx hown)
        | (refine step_calls rfl 19 (.tmp 14) 41 rfl Try.func19 (by kernel_rfl) rfl (.agg #[.bool s.hard, .int .i64 s.t, .int .i64 s.v, .int .i64 s.f, .slice A n c]) (by rfl) _ (Q3.out _ HBB.out) ?_
           rintro e wx ⟨A6, k6, rfl, hown, hbx⟩
           refine ⟨_, rfl, ?_⟩
           have HT2 := Lib.hid hown.sees
           try have HT1 := Lib.hid ((HT1.out).on hbx)
           try have HR1 := Lib.hid (⟨(HR1.out.1).on hbx, HR1.out.2⟩)
           have hby := bthen HBB.out hbx
           have HBB := Lib.hid hby
           obtain ⟨c0, c1, c2, c3, c4⟩ := HC.out _ (bthen HB2.out hby)
           clear hby hbx hown))
      all_goals
        go_wp2_with fail
        go_meet
        exact ⟨_, _, _, _, rfl, rfl, HT1.out, HT2.out, HBB.out⟩
    case rest =>
      obtain ⟨A1, k1, A2, k2, rfl, rfl, hd1, hd2, hbx⟩ := hcut
      clear c0 c1 c2 c3 c4
      generalize recordsF s = ms at *
      have HD1 := Lib.hid hd1
      have HD2 := Lib.hid hd2
      have HBX := Lib.hid (bthen HB2.out hbx)
      clear hd1 hd2 hbx
      go_wp2_with fail
      go_loopw [23] (fun iv wr => ∃ k : Nat, k ≤ ms.length ∧ iv = .int .i64 (k : Int) ∧ Below wc.heap.size wc wr) (fun iv _ => ms.length - (intOf iv).toNat)
      case atStart => exact ⟨0, Nat.zero_le _, rfl, Below.refl _ _⟩
      case round =>
        obtain ⟨k, hk, rfl, hbel⟩ := hrel
        by_cases hlt : k < ms.length
        · obtain ⟨b, off, rfl, hbl, d0, d1⟩ := Toks.at_ HD1.out hlt
          obtain ⟨b', off', rfl, hbl', f0, f1⟩ := Toks.at_ HD2.out hlt
          have d0' := (hbel.cell (p := ⟨b, off + k * 2, none⟩) hbl).trans d0
          have d1' := (hbel.cell (p := ⟨b, off + k * 2 + 1, none⟩) hbl).trans d1
          have f0' := (hbel.cell (p := ⟨b', off' + k * 2, none⟩) hbl').trans f0
          have f1' := (hbel.cell (p := ⟨b', off' + k * 2 + 1, none⟩) hbl').trans f1
          have hlt' : (k : Int) < (ms.length : Int) := by omega
          have hk13 : (k : Int) ≤ 13 := by have := HRL.out; omega
          clear d0 d1 f0 f1 hbl hbl'
          generalize ms[k].1 = x at *
          generalize tok ms[k].2 = y at *
          unfold cb at d0' f0'
          have HBEL := Lib.hid hbel
          have HK := Lib.hid hlt
          clear hbel hlt hk
          go_wp2_with fail
          go_quiet (fail)
          go_wp2_with fail
          go_roundw
          case rel => exact ⟨k + 1, HK.out, by go_num, below_drewN HBEL.out _⟩
          case measure => have := HK.out; simp [intOf]; omega
        · have hlt' : ¬ (k : Int) < (ms.length : Int) := by omega
          have HBEL := Lib.hid hbel
          clear hbel hlt hk
          go_wp2_with fail
          go_ret
          exact ⟨rfl, HB0.out.trans ((HBX.out.trans (HBEL.out.mono HBX.out.size)).mono HB0.out.size)⟩

set_option maxRecDepth 100000 in
theorem lifted (os : Os) (started : os.Started) (H : Type) (enc : TypeId × Value → H) :
    ReturnsInHanded {} Try.checked os 4 .any (Rows.hardRecordsSpec.pre6 enc Try.prog Try.f4 Rows.hardRecordsRow.domain false) (Rows.hardRecordsSpec.post enc Try.prog Try.f4 false true false false) := by
  refine returnsInHanded_of_change (C := Try.checked) own started (by kernel_rfl) Try.func4
    (ChangeSpec.witness6 (enc := enc) (C := Try.checked) false ⟨#[], #[.agg #[.bool false, .int .i64 0, .int .i64 0, .int .i64 0, .slice none 0 0]], []⟩ 8 (by kernel_rfl) (by kernel_rfl) (by kernel_rfl) (by kernel_rfl)) ?_
  intro W base args ds gs before hval0 hW hcnd _
  have hval : ∀ (j : Nat) t v, Try.f4.params[j]? = some t → args[j]? = some v → Value.okWide Try.prog W .any base t v := hval0
  have hW' := hW
  obtain ⟨p, q, hA0, hV, rfl, hfz, hnd⟩ := hW
  have hA : DataW.TrodAll enc Try.prog W 0 (fun _ => true) true Try.f4.params.toList args.toList ds p := hA0
  rw [Try.params4] at hA hval
  obtain ⟨v0, vs0, d0, ds0, p0, q0, hargs, rfl, rfl, h0, r0⟩ := trodAll_cons hA
  obtain ⟨rfl, rfl, rfl⟩ := trodAll_nil r0
  obtain rfl : args = #[v0] := by cases args; simp_all
  obtain ⟨rfl, rfl⟩ := trodVars_none hV
  have k0 := h0
  have lt0 : ∀ x ∈ p0, x.block < W.heap.size := by obtain ⟨m, hm⟩ := k0; exact DataW.trod_lt m _ _ _ hm
  obtain ⟨s, A, n, c, rfl, hnc, hcm, hl, hs⟩ := open_save (hval 0 41 v0 rfl rfl) h0
  clear hA0 hval0
  refine (walk s A n c W hs hl (Nat.le_trans hnc hcm)).mono fun e W' ⟨he, bel⟩ => ?_
  subst he
  exact ⟨_, rfl, _, _, _, [], _, [], hW', trodAll_mk1 (shut_bool Try.underlying4 _), (trodAll_cons_mk (Below.trod laidOut (by kernel_rfl) (of_decide_eq_true (by kernel_rfl)) k0 bel lt0) trodAll_mk0), rfl, bel.frame _, fun h => by cases h⟩

theorem over : Rows.hardRecordsRow.holds Try.pinned (OpenSpec.ofChange Rows.hardRecordsSpec) :=
  OpenClaim.holds_of_wide 4 Try.f4 rfl rfl rfl rfl rfl rfl rfl ⟨rfl, rfl, rfl, rfl, rfl⟩ rfl rfl rfl rfl rfl (by kernel_rfl) Try.func4 (by kernel_rfl)
    (of_decide_eq_true (by kernel_rfl)) (by unfold Func.isWrapper; first | (rw [if_pos (by decide +kernel)]; kernel_rfl) | (rw [if_neg (by decide +kernel)]; exact ⟨rfl, rfl⟩))
    (fun os started H enc _ => lifted os started H enc)

theorem proved : Rows.HardRecordsSaid :=
  over
#print axioms proved
end Go.Proofs.Ytmhgbpgbnfdokaa.hardRecords
