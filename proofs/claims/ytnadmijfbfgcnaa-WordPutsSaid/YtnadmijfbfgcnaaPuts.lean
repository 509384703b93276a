/- WordPuts: any number's, text's and truth's bytes are the document's, and read as they were, if they may be. For every input, without a condition. -/
import Derived.Test.YtnadmijfbfgcnaaRows
import Derived.Test.YtnadmijfbfgcnaaFix1
import Derived.ProofKit
import Derived.Deep.RegionWith
import Derived.Deep.DeepCutAuto
import Derived.OpenShut
import Derived.ShutString
namespace Go.Proofs.Ytnadmijfbfgcnaa.wordPuts
open Go.ChangeShapes Go.WideShapes Go.ChangeAt Go.RowKit
open Go.ChangeMaps (open_string shut_string)
set_option linter.unusedVariables false

theorem own : ownKnob Try.prog.godebug = none := by kernel_rfl

theorem wrap_num (a : Int) (ha : (Lit.int .i64 a).wf = true) : wrap64 (num (be (u64n a) 8) : Int) = a := by
  have h := bounds_i64 ha
  have e : (256 : Nat) ^ 8 = 18446744073709551616 := by decide
  rw [num_be, e, Nat.mod_eq_of_lt (u64n_lt a)]
  unfold wrap64 u64n
  omega

/-- what is read of a number that was put -/
theorem int_put (a least most : Int) (r : List UInt8) (ha : (Lit.int .i64 a).wf = true) :
    (RS.mk (be (u64n a) 8 ++ r) false).int least most = if a < least ∨ most < a then (0, RS.failed) else (a, ⟨r, false⟩) := by
  have hc : (RS.mk (be (u64n a) 8 ++ r) false).bad = false ∧ 8 ≤ (RS.mk (be (u64n a) 8 ++ r) false).l.length := ⟨rfl, by simp⟩
  unfold RS.int
  rw [num_take_ret _ 8 hc, behind_yes _ 8 hc]
  have h1 : (RS.mk (be (u64n a) 8 ++ r) false).l.take 8 = be (u64n a) 8 := List.take_left' (by simp)
  have h2 : (RS.mk (be (u64n a) 8 ++ r) false).l.drop 8 = r := List.drop_left' (by simp)
  rw [h1, h2]
  simp only [wrap_num a ha]
theorem text_put (s : ByteArray) (r : List UInt8) : (RS.mk (textBytes s ++ r) false).text 65535 = (s.data.toList.take 65535, ⟨r, false⟩) := by
  unfold textBytes
  have hlen : (s.data.toList.take 65535).length = min s.size 65535 := by rw [List.length_take, text_len, Nat.min_comm]
  generalize s.data.toList.take 65535 = q at *
  have hm : min s.size 65535 ≤ 65535 := Nat.min_le_right _ _
  generalize min s.size 65535 = m at *
  have hc : (RS.mk (be m 2 ++ q ++ r) false).bad = false ∧ 2 ≤ (RS.mk (be m 2 ++ q ++ r) false).l.length := ⟨rfl, by simp⟩
  unfold RS.text
  rw [num_take_ret _ 2 hc, behind_yes _ 2 hc]
  have h1 : (RS.mk (be m 2 ++ q ++ r) false).l.take 2 = be m 2 := by simp only [List.append_assoc]; exact List.take_left' (by simp)
  have h2 : (RS.mk (be m 2 ++ q ++ r) false).l.drop 2 = q ++ r := by simp only [List.append_assoc]; exact List.drop_left' (by simp)
  have h3 : num (be m 2) = m := by rw [num_be]; exact Nat.mod_eq_of_lt (by omega)
  rw [h1, h2]
  simp only
  rw [h3, if_neg (by omega)]
  have hc2 : (RS.mk (q ++ r) false).bad = false ∧ m ≤ (RS.mk (q ++ r) false).l.length := ⟨rfl, by simp; omega⟩
  rw [num_take_ret _ m hc2, behind_yes _ m hc2]
  have h4 : (RS.mk (q ++ r) false).l.take m = q := List.take_left' hlen
  have h5 : (RS.mk (q ++ r) false).l.drop m = r := List.drop_left' hlen
  rw [h4, h5]
theorem bool_put (b : Bool) : (RS.mk (boolBytes b) false).bool = (b, ⟨[], false⟩) := by cases b <;> kernel_rfl

theorem all_texts (x y z : List UInt8) : ((⟨#[7]⟩ : ByteArray) ++ ⟨x.toArray⟩ ++ ⟨y.toArray⟩ ++ ⟨z.toArray⟩) = ⟨([7] ++ x ++ y ++ z).toArray⟩ := by
  have h1 : ((⟨#[7]⟩ : ByteArray) ++ ⟨x.toArray⟩) = ⟨([7] ++ x).toArray⟩ := text_app [7] x
  rw [h1, text_app, text_app]

set_option maxRecDepth 100000 in
set_option maxHeartbeats 1600000 in
theorem walk (a0 : Int) (a1 : ByteArray) (a2 : Bool) (a3 : Int) (a4 : Int) (w0 : (Lit.int .i64 a0).wf = true) (w1 : a1.size ≤ maxLen) (w : World) :
    Calls Try.prog 3 #[.int .i64 a0, .string a1, .bool a2, .int .i64 a3, .int .i64 a4] w fun e w' => e = .returned (.bool true) ∧ Below w.heap.size w w' := by
  unfold maxLen at w1
  by_cases hz : 70000 < a1.size
  · have hz' : (70000 : Int) < (a1.size : Int) := by omega
    go_enter Try.func3, Try.ntmps3
    go_wp2_with fail
    refine (fixed1_any _).mono ?_
    rintro e w1 ⟨rfl, hb1⟩
    go_wp2_with fail
    go_ret
    exact ⟨rfl, hb1⟩
  · have hz' : ¬ (70000 : Int) < (a1.size : Int) := by omega
    have HI := Lib.hid (fun W => refInt_any a0 W)
    have HT := Lib.hid (fun W => refText_any a1 W)
    have HB := Lib.hid (fun W => refBool_any a2 W)
    have HE := Lib.hid (all_texts (be (u64n a0) 8) (textBytes a1) (boolBytes a2))
    have zI : (⟨(be (u64n a0) 8).toArray⟩ : ByteArray).size = 8 := by rw [← text_len]; simp
    have zT : (⟨(textBytes a1).toArray⟩ : ByteArray).size ≤ 65537 := by rw [← text_len]; simp [textBytes]; omega
    have zB : (⟨(boolBytes a2).toArray⟩ : ByteArray).size = 1 := by rw [← text_len]; simp [boolBytes]
    have zL : ([7] ++ be (u64n a0) 8 ++ textBytes a1 ++ boolBytes a2).length ≤ 70000 := by simp [textBytes, boolBytes]; omega
    have zM : 12 ≤ ([7] ++ be (u64n a0) 8 ++ textBytes a1 ++ boolBytes a2).length := by simp [textBytes, boolBytes]; omega
    have HD := Lib.hid (show ([7] ++ be (u64n a0) 8 ++ textBytes a1 ++ boolBytes a2).drop 1 = be (u64n a0) 8 ++ (textBytes a1 ++ boolBytes a2) by simp)
    go_enter Try.func3, Try.ntmps3
    go_wp2_with fail
    refine (fixed1_any _).mono ?_
    rintro e w1 ⟨rfl, hb1⟩
    go_wp2_with fail
    refine (int_any _ 1 1 [7] a0 _ (sees_new w1 #[.int .u8 7] 5) (by omega)).mono ?_
    intro e w2 h
    obtain ⟨A2, c2, rfl, hs2, _, _, hb2⟩ := h.at rfl (n := 9) (by simp)
    clear h
    go_wp2_with fail
    refine (text_any A2 9 c2 _ a1 _ hs2 (by omega)).mono ?_
    intro e w3 h
    obtain ⟨n3, hn3⟩ : ∃ n, ([7] ++ be (u64n a0) 8 ++ textBytes a1).length = n := ⟨_, rfl⟩
    obtain ⟨n, hn⟩ : ∃ n, ([7] ++ be (u64n a0) 8 ++ textBytes a1 ++ boolBytes a2).length = n := ⟨_, rfl⟩
    obtain ⟨A3, c3, rfl, hs3, _, _, hb3⟩ := h.at rfl hn3
    have hn3' : n3 ≤ 1073741824 := by rw [← hn3]; rw [List.length_append] at zL; omega
    clear h hs2 hn3
    rw [hn] at zL zM
    have HN := Lib.hid hn
    clear hn
    go_wp2_with fail
    refine (bool_any A3 n3 c3 _ a2 _ hs3 hn3').mono ?_
    intro e w4 h
    obtain ⟨A4, c4, rfl, hs4, hc4, hm4, hb4⟩ := h.at rfl HN.out
    clear h hs3
    have hb : Below w.heap.size w w4 := bthen (bthen (bthen (hb1.alloc hb1.size _) hb2) hb3) hb4
    clear hb1 hb2 hb3 hb4
    generalize hL : [7] ++ be (u64n a0) 8 ++ textBytes a1 ++ boolBytes a2 = L at *
    generalize (⟨(be (u64n a0) 8).toArray⟩ : ByteArray) = tI at *
    generalize (⟨(textBytes a1).toArray⟩ : ByteArray) = tT at *
    generalize (⟨(boolBytes a2).toArray⟩ : ByteArray) = tB at *
    have HC := Lib.hid (fun W h => conv_sees (P := Try.prog) W 23 9 5 sl_u8 Try.underlying5 Try.underlying9 W.heap.size A4 n c4 L h)
    generalize (⟨L.toArray⟩ : ByteArray) = tL at *
    clear hL
    go_wp2_with fail
    go_upto_region 6 with (fail)
    go_cut [38] (fun t wx => t = .bool false ∧ Below w4.heap.size w4 wx)
    case first =>
      have he := HE.out
      have hc0 := HC.out w4.drew hs4.drew
      go_region_with (first
        | (go_at_call 13; refine (HI.out _).mono ?_; rintro e wI ⟨rfl, hbI⟩; have hcI := HC.out wI (hs4.drew.on hbI))
        | (go_at_call 14; refine (HT.out _).mono ?_; rintro e wT ⟨rfl, hbT⟩; have hcT := HC.out wT ((hs4.drew.on hbI).on hbT))
        | (go_at_call 15; refine (HB.out _).mono ?_; rintro e wB ⟨rfl, hbB⟩; have hcB := HC.out wB (((hs4.drew.on hbI).on hbT).on hbB)))
      all_goals
        go_wp2_with fail
        go_meet
        exact ⟨rfl, bthen (bthen ((Below.refl _ w4).drew.trans hbI) hbT) hbB⟩
    case rest =>
      obtain ⟨rfl, hbc⟩ := hcut
      have hs5 := hs4.on hbc
      have hb5 := bthen hb hbc
      clear hs4 hb hbc
      have hdr := hs5.drop (k := 1) (by omega) hc4
      rw [if_neg (by omega)] at hdr
      have hl1 : n - 1 ≤ 140737488355328 := by omega
      have hdd : (cbs L).drop 1 = cbs (be (u64n a0) 8 ++ (textBytes a1 ++ boolBytes a2)) := by rw [← HD.out]; simp [cbs]
      rw [hdd] at hdr
      have hnc : ¬ c4 = 1 := by omega
      have hn1 : ¬ n < 1 := by omega
      clear hdd hs5
      unfold maxLen at hm4
      have HDR := Lib.hid hdr
      clear hdr
      go_wp2_with fail
      have hdr : Sees wc wc.heap.size (Option.map (fun x => { block := x.block, off := x.off + 1 }) A4) (n - 1) (cbs (be (u64n a0) 8 ++ (textBytes a1 ++ boolBytes a2))) := HDR.out
      refine (read_any _ (n - 1) (c4 - 1) _ _ hdr hl1).mono ?_
      rintro e w5 ⟨g, rfl, hr, hbr, hgr⟩
      clear hdr
      have hb6 := bthen hb5 hbr
      have hgw : w.heap.size ≤ g := Nat.le_trans hb5.size hgr
      clear hb5 hbr hgr HDR hl1 hnc hn1 HI HT HB HE HC zI zT zB zM zL HD HN hc4 hm4
      go_wp2_with fail
      refine (rInt_any g _ a3 a4 _ hr).mono ?_
      rw [int_put a0 a3 a4 _ w0]
      by_cases hlo : a0 < a3 ∨ a4 < a0
      · rw [if_pos hlo]
        rintro e w6 ⟨rfl, hr6, hg6⟩
        have hb7 := below_gb hb6 hg6 hgw hb6.size
        clear hb6 hg6 hr
        have hfb : RS.failed.bad = true := rfl
        have hfl : (RS.failed.l.length : Int) = 0 := rfl
        have hft : (RS.failed.text 99).1 = [] := rfl
        have hfo : RS.failed.bool.1 = false := rfl
        go_wp2_with (first
          | (go_at_call 18; refine (rFail_any g _ _ hr6).mono ?_; rintro e w' ⟨rfl, rfl⟩)
          | (go_at_call 19; refine (rText_any g _ 99 _ hr6).mono ?_; rintro e w7 ⟨rfl, hr7, hg7⟩)
          | (go_at_call 20; refine (rBool_any g RS.failed _ hr7).mono ?_; rintro e w8 ⟨rfl, hr8, hg8⟩)
          | (go_at_call 21; refine (rLeft_any g RS.failed _ hr8).mono ?_; rintro e w' ⟨rfl, rfl⟩))
        all_goals
          go_ret
          exact ⟨rfl, below_gb (below_gb hb7 hg7 hgw hb7.size) hg8 hgw (below_gb hb7 hg7 hgw hb7.size).size⟩
      · rw [if_neg hlo]
        rintro e w6 ⟨rfl, hr6, hg6⟩
        have hb7 := below_gb hb6 hg6 hgw hb6.size
        clear hb6 hg6 hr
        have h1 : ¬ a0 < a3 := fun h => hlo (.inl h)
        have h2 : ¬ a4 < a0 := fun h => hlo (.inr h)
        clear hlo
        have hd1 : (RS.mk [] false).done = true := rfl
        by_cases hsz : a1.size ≤ 65535
        · have hsz' : (a1.size : Int) ≤ 65535 := by omega
          have ht : (⟨(a1.data.toList.take 65535).toArray⟩ : ByteArray) = a1 := by
            rw [List.take_of_length_le (by rw [text_len]; exact hsz)]
          go_wp2_with fail
          refine (rText_any g _ 65535 _ hr6).mono ?_
          rw [text_put, ht]
          clear ht
          rintro e w7 ⟨rfl, hr7, hg7⟩
          have hb8 := below_gb hb7 hg7 hgw hb7.size
          clear hb7 hg7 hr6
          have hbo := rBool_any g _ _ hr7
          rw [bool_put] at hbo
          have HBO := Lib.hid hbo
          clear hbo
          go_wp2_with (first
            | (go_at_call 20; refine HBO.out.mono ?_; rintro e w8 ⟨rfl, hr8, hg8⟩)
            | (go_at_call 22; refine (rDone_any g _ _ hr8).mono ?_; rintro e w' ⟨rfl, rfl⟩))
          go_ret
          exact ⟨rfl, below_gb hb8 hg8 hgw hb8.size⟩
        · have hsz' : ¬ (a1.size : Int) ≤ 65535 := by omega
          have hsz2 : (65535 : Int) < (a1.size : Int) := by omega
          have ht : (⟨(a1.data.toList.take 65535).toArray⟩ : ByteArray) = a1.extract 0 65535 := by rw [cut_front]
          go_wp2_with fail
          refine (rText_any g _ 65535 _ hr6).mono ?_
          rw [text_put, ht]
          clear ht
          rintro e w7 ⟨rfl, hr7, hg7⟩
          have hb8 := below_gb hb7 hg7 hgw hb7.size
          clear hb7 hg7 hr6
          have hbo := rBool_any g _ _ hr7
          rw [bool_put] at hbo
          have HBO := Lib.hid hbo
          clear hbo
          go_wp2_with (first
            | (go_at_call 20; refine HBO.out.mono ?_; rintro e w8 ⟨rfl, hr8, hg8⟩)
            | (go_at_call 22; refine (rDone_any g _ _ hr8).mono ?_; rintro e w' ⟨rfl, rfl⟩))
          go_ret
          exact ⟨rfl, below_gb hb8 hg8 hgw hb8.size⟩

set_option maxRecDepth 100000 in
theorem lifted (os : Os) (started : os.Started) (H : Type) (enc : TypeId × Value → H) :
    ReturnsInHanded {} Try.checked os 3 .any (Rows.wordPutsSpec.pre6 enc Try.prog Try.f3 Rows.wordPutsRow.domain false) (Rows.wordPutsSpec.post enc Try.prog Try.f3 false true false false) := by
  refine returnsInHanded_of_change (C := Try.checked) own started (by kernel_rfl) Try.func3
    (ChangeSpec.witness6 (enc := enc) (C := Try.checked) false ⟨#[], #[.int .i64 0, .string ByteArray.empty, .bool false, .int .i64 0, .int .i64 0], []⟩ 8 (by kernel_rfl) (by kernel_rfl) (by kernel_rfl) (by kernel_rfl)) ?_
  intro W base args ds gs before hval0 hW hcnd _
  have hval : ∀ (j : Nat) t v, Try.f3.params[j]? = some t → args[j]? = some v → Value.okWide Try.prog W .any base t v := hval0
  have hW' := hW
  obtain ⟨p, q, hA0, hV, rfl, hfz, hnd⟩ := hW
  have hA : DataW.TrodAll enc Try.prog W 0 (fun _ => true) true Try.f3.params.toList args.toList ds p := hA0
  rw [Try.params3] at hA hval
  obtain ⟨v0, vs0, d0, ds0, p0, q0, hargs, rfl, rfl, h0, r0⟩ := trodAll_cons hA
  obtain ⟨v1, vs1, d1, ds1, p1, q1, rfl, rfl, rfl, h1, r1⟩ := trodAll_cons r0
  obtain ⟨v2, vs2, d2, ds2, p2, q2, rfl, rfl, rfl, h2, r2⟩ := trodAll_cons r1
  obtain ⟨v3, vs3, d3, ds3, p3, q3, rfl, rfl, rfl, h3, r3⟩ := trodAll_cons r2
  obtain ⟨v4, vs4, d4, ds4, p4, q4, rfl, rfl, rfl, h4, r4⟩ := trodAll_cons r3
  obtain ⟨rfl, rfl, rfl⟩ := trodAll_nil r4
  obtain rfl : args = #[v0, v1, v2, v3, v4] := by cases args; simp_all
  obtain ⟨rfl, rfl⟩ := trodVars_none hV
  obtain ⟨a0, rfl, rfl, rfl, w0⟩ := open_int Try.underlying3 (hval 0 3 v0 rfl rfl) h0
  obtain ⟨a1, rfl, rfl, rfl, w1⟩ := open_string Try.underlying9 (hval 1 9 v1 rfl rfl) h1
  obtain ⟨a2, rfl, rfl, rfl⟩ := open_bool Try.underlying4 (hval 2 4 v2 rfl rfl) h2
  obtain ⟨a3, rfl, rfl, rfl, w3⟩ := open_int Try.underlying3 (hval 3 3 v3 rfl rfl) h3
  obtain ⟨a4, rfl, rfl, rfl, w4⟩ := open_int Try.underlying3 (hval 4 3 v4 rfl rfl) h4
  clear hA0 hval0
  simp only [List.append_nil] at hW'
  refine (walk a0 a1 a2 a3 a4 w0 w1 W).mono fun e W' ⟨he, bel⟩ => ?_
  subst he
  exact ⟨_, rfl, _, _, _, [], [], [], hW', trodAll_mk1 (shut_bool Try.underlying4 _), (trodAll_cons_mk (shut_int Try.underlying3 w0) (trodAll_cons_mk (shut_string Try.underlying9 w1) (trodAll_cons_mk (shut_bool Try.underlying4 _) (trodAll_cons_mk (shut_int Try.underlying3 w3) (trodAll_cons_mk (shut_int Try.underlying3 w4) trodAll_mk0))))), rfl, bel.frame _, fun h => by cases h⟩

theorem over : Rows.wordPutsRow.holds Try.pinned (OpenSpec.ofChange Rows.wordPutsSpec) :=
  OpenClaim.holds_of_wide 3 Try.f3 rfl rfl rfl rfl rfl rfl rfl ⟨rfl, rfl, rfl, rfl, rfl⟩ rfl rfl rfl rfl rfl (by kernel_rfl) Try.func3 (by kernel_rfl)
    (of_decide_eq_true (by kernel_rfl)) (by unfold Func.isWrapper; first | (rw [if_pos (by decide +kernel)]; kernel_rfl) | (rw [if_neg (by decide +kernel)]; exact ⟨rfl, rfl⟩))
    (fun os started H enc _ => lifted os started H enc)

theorem proved : Rows.WordPutsSaid :=
  over
#print axioms proved
end Go.Proofs.Ytnadmijfbfgcnaa.wordPuts
