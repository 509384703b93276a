/- FramePuts: any payload's frame is the document's, and tells it, whatever stands behind; one that is too long has none. For every input, without a condition. -/
import Derived.Test.YtnbkphdkpncjfaaRows
import Derived.Test.YtnbkphdkpncjfaaFix3
import Derived.Test.YtnbkphdkpncjfaaOpen2
import Derived.ProofKit
import Derived.OpenShut
import Derived.Deep.RegionHeld3
import Derived.SizedLaws
namespace Go.Proofs.Ytnbkphdkpncjfaa.framePuts
open Go.ChangeShapes Go.WideShapes Go.ChangeAt Go.RowKit Go.Deep
set_option linter.unusedVariables false

theorem own : ownKnob Try.prog.godebug = none := by kernel_rfl
theorem laidOut : laidOutB Try.prog = true := by kernel_rfl

/-- 'b[k:]' -/
theorem slice_from (A : Option Addr) (n c k : Nat) (z : Int) (hz : z = (k : Int)) (hk : k ≤ n) (W : World) :
    (Instr.slice 23 (.slice A n c) (some (.int .i64 z)) none none).run Try.prog W = .ok (.slice (if c = k then A else A.map (·.add k)) (n - k) (c - k)) W := by
  subst hz
  have h := run_slice_l (P := Try.prog) (w := W) 23 A n c (by kernel_rfl) .i64 (k : Int) (by omega) (by omega)
  have hs : (sizeOf (Try.prog.elem 23)).run Try.prog W = .ok 1 W := by go_simp
  rw [h, hs]
  simp only [Result.andThen, sliced, Nat.mul_one, Int.toNat_natCast]

theorem text_small (l : List UInt8) (h : l.length ≤ 8388608) : (((⟨l.toArray⟩ : ByteArray).size : Nat) : Int) ≤ 8388608 := by
  have e : (⟨l.toArray⟩ : ByteArray).size = l.length := by rw [← text_len]
  rw [e]
  omega
set_option maxRecDepth 100000 in
theorem size_nat (n : Nat) (w : World) (h : n ≤ 70368744177664) : Calls Try.prog 50 #[.int .i64 (n : Int)] w fun e w' => e = .returned (.int .i64 ((n : Int) + 8)) ∧ w' = w :=
  (size_any (n : Int) w (by omega)).mono fun e w' ⟨he, hw⟩ => ⟨by rw [he, show max (n : Int) 0 = (n : Int) from by omega], hw⟩
theorem zeros_sees (w : World) (m : Nat) : Sees (w.alloc (.cells (madeCells #[.int .u8 0] m) 5)) (w.alloc (.cells (madeCells #[.int .u8 0] m) 5)).heap.size (some ⟨w.heap.size, 0, none⟩) m (cbs (List.replicate m 0)) := by
  have h := sees_new w (madeCells #[.int .u8 0] m) 5
  have e : (madeCells #[Value.int .u8 0] m).toList = cbs (List.replicate m 0) := by
    rw [toList_madeCells_one]
    simp [cbs, cb]
  rw [e] at h
  have e2 : (madeCells #[Value.int .u8 0] m).size = m := by rw [← Array.length_toList, e]; simp
  rwa [e2] at h

/-- a stronger condition on the worlds will do -/
theorem held_imp {P : Program} {md : Region.Mode} {ops : Array Oper} {Q : Exit → Act → World → Prop} {S S2 : World → Prop} (hS : ∀ w, S2 w → S w) :
    ∀ (fuel : Nat) (listed : Array Bool) (a : Act) (w : World), wpAnyH P md ops Q S2 fuel listed a w → wpAnyH P md ops Q S fuel listed a w
  | 0, _, _, _, h => h
  | fuel + 1, _, _, _, h => ⟨h.1, fun i hi => wpOp_mono (fun a' w' h' => ⟨hS w' h'.1, held_imp hS fuel _ a' w' h'.2⟩) (h.2 i hi)⟩
theorem held_weaken {P : Program} {md : Region.Mode} {ops : Array Oper} {Q : Exit → Act → World → Prop} {S S2 : World → Prop} {fuel : Nat} {listed : Array Bool} {K : Act → World → Prop}
    (hK : Shut (∀ a w, S w → (S w → wpAnyH P md ops Q S fuel listed a w) → K a w)) (h : ∀ w, S2 w → S w) :
    Shut (∀ a w, S2 w → (S2 w → wpAnyH P md ops Q S2 fuel listed a w) → K a w) :=
  fun a w h2 hW => hK a w (h w h2) (fun _ => held_imp h _ _ _ _ (hW h2))

/-- the way back into the region, said under the stronger condition: as good -/
theorem held_eq {P : Program} {md : Region.Mode} {ops : Array Oper} {Q : Exit → Act → World → Prop} {S S2 : World → Prop} {fuel : Nat} {listed : Array Bool} {K : Act → World → Prop}
    (hK : Shut (∀ a w, S w → (S w → wpAnyH P md ops Q S fuel listed a w) → K a w)) (h : ∀ w, S2 w → S w) :
    Shut (∀ a w, S w → (S w → wpAnyH P md ops Q S fuel listed a w) → K a w) = Shut (∀ a w, S2 w → (S2 w → wpAnyH P md ops Q S2 fuel listed a w) → K a w) :=
  propext (Iff.intro (fun _ => held_weaken hK h) (fun _ => hK))

set_option maxRecDepth 100000 in
set_option maxHeartbeats 12000000 in
theorem walk (A0 : Option Addr) (n0 c0 : Nat) (l0 : List UInt8) (A : Option Addr) (n c : Nat) (l : List UInt8) (A2 : Option Addr) (n2 c2 : Nat) (l2 : List UInt8) (by_ : UInt8) (w : World)
    (hs0 : Sees w w.heap.size A0 n0 (cbs l0)) (hs : Sees w w.heap.size A n (cbs l)) (hs2 : Sees w w.heap.size A2 n2 (cbs l2)) (hn0 : n0 ≤ 140737488351232) (hn : n ≤ 140737488351232) (hn2 : n2 ≤ 140737488351232) :
    Calls Try.prog 10 #[.slice A0 n0 c0, .slice A n c, .slice A2 n2 c2, .int .u8 (by_.toNat : Int)] w fun e w' => e = .returned (.bool true) ∧ Below w.heap.size w w' := by
  have hbt := by_.toNat_lt
  generalize by_.toNat = bt at *
  obtain ⟨m, hmn⟩ : ∃ m : Nat, (4000 : Int) + (bt : Int) = (m : Int) := ⟨4000 + bt, by omega⟩
  have hm90 : m ≤ 5000 := by omega
  by_cases hz1 : 700 < n0 + n + n2
  · have hz2 : (700 : Int) < (n0 : Int) + (n : Int) + (n2 : Int) := by omega
    go_enter Try.func10, Try.ntmps10
    go_wp2_with fail
    refine (fixed3_any _).mono ?_
    rintro e w1 ⟨rfl, hb1⟩
    go_wp2_with fail
    go_ret
    exact ⟨rfl, hb1⟩
  · have hz2 : ¬ (700 : Int) < (n0 : Int) + (n : Int) + (n2 : Int) := by omega
    have hlen : l.length = n := by have := hs.1; simpa using this
    have hlen0 : l0.length = n0 := by have := hs0.1; simpa using this
    obtain ⟨i0, hi0, hy0, hy1, hy2⟩ := info_parts u8_row
    have hfl : (frameOf l).length = n + 8 := by rw [frameOf_length, hlen]
    have hLl : (l0 ++ frameOf l).length = n0 + (n + 8) := by rw [List.length_append, hlen0, hfl]
    have hp4 : l.length ≤ 4096 := by omega
    have HT := Lib.hid (takeF_frame l l2 hp4)
    have HE := Lib.hid (text_app l0 (frameOf l))
    have hdrop : (cbs (l0 ++ frameOf l)).drop n0 = cbs (frameOf l) := by rw [cbs_append]; exact List.drop_left' (by rw [cbs_length]; exact hlen0)
    have hn96 : n ≤ 4096 := by omega
    have hn46 : n ≤ 70368744177664 := by omega
    have hn046 : n0 ≤ 70368744177664 := by omega
    have hz700 : n0 + n + n2 ≤ 700 := by omega
    have hm1 : 0 + n0 ≤ maxLen := Nat.le_trans (show 0 + n0 ≤ 140737488355328 by omega) (by decide)
    have hm2 : (0 + n0) * 1 ≤ 140737488355328 := by omega
    have hm3 : n + 8 + n2 ≤ maxLen := Nat.le_trans (show n + 8 + n2 ≤ 140737488355328 by omega) (by decide)
    have hm4 : (n + 8 + n2) * 1 ≤ 140737488355328 := by omega
    have hm5 : n + 8 + n2 ≤ 140737488355328 := by omega
    have HLl := Lib.hid hLl
    have HFL := Lib.hid hfl
    have HDR := Lib.hid hdrop
    have HLEN := Lib.hid hlen
    clear hlen hlen0 hfl hLl hp4 hdrop
    go_enter Try.func10, Try.ntmps10
    go_wp2_with fail
    refine (fixed3_any _).mono ?_
    rintro e w1 ⟨rfl, hb1⟩
    have ha0 := hs0.on hb1
    have ha := hs.on hb1
    have ha2 := hs2.on hb1
    clear hs0 hs hs2
    have hf0 := free_new w1 #[] 5 (by show 0 ≤ maxLen; decide)
    have hb2 := (Below.refl w1.heap.size w1).alloc (Nat.le_refl _) (.cells #[] 5)
    have hz3 := hb2.size
    have hs02 := ha0.on hb2
    go_wp2_with (at_builtin; refine wpList_append_free _ rfl (.tmp 31) (.tmp 32) _ rfl w1.heap.size 5 i0 _ 1 sl_u8 hi0 hy0 hy1 hy2 rfl _ 0 0 [] rfl hf0 (by simp) _ A0 n0 c0 (cbs l0) rfl hs02 (cbs_one _) hm1 hm2 hz3 ?_
                 intro A3 c3 w3 hap
                 have hf3 := hap.1
                 have hb3 := hap.below hf0 hb2 hz3 (Nat.le_refl _)
                 rw [Nat.zero_add, List.nil_append] at hf3
                 clear hap hf0 hb2 hs02)
    refine (put_any A3 n0 c3 l0 A n c l w3 hf3.sees ((ha.on hb3)) hn96 hn046).mono ?_
    intro e w4 h
    obtain ⟨A4, c4, rfl, hf4, hb4⟩ := h.at rfl HLl.out
    have hb14 := hb3.trans (hb4.mono hb3.size)
    have hf4 := hf4.mono hb3.size
    clear hf3 hb3 hb4 h hz3
    have HA0 := Lib.hid (ha0.on hb14)
    have HA := Lib.hid (ha.on hb14)
    have HA2 := Lib.hid (ha2.below hb14)
    have HA1 := Lib.hid ha
    clear ha0 ha ha2
    have hbw := hb1.trans (hb14.mono hb1.size)
    have hbz := hb1.size
    have hz14 := hb14.size
    have HB1 := Lib.hid hb1
    clear hb1
    have zF := text_small (frameOf l) (by have := HFL.out; omega)
    have zA := text_small l0 (by have := HLl.out; rw [List.length_append] at this; omega)
    have hsum : ¬ (9223372036854775807 : Nat) < (⟨l0.toArray⟩ : ByteArray).size + (⟨(frameOf l).toArray⟩ : ByteArray).size := by omega
    clear zA zF
    have HCb := Lib.hid (fun W B h => conv_sees' W B A4 (n0 + (n + 8)) c4 (l0 ++ frameOf l) h)
    have HCa := Lib.hid (fun W B h => conv_sees' W B A0 n0 c0 l0 h)
    have HCf := Lib.hid (fun W B A' c' h => conv_sees' W B A' (n + 8) c' (frameOf l) h)
    have hbytes := HE.out
    clear HE
    generalize (⟨(l0 ++ frameOf l).toArray⟩ : ByteArray) = tL at *
    generalize (⟨l0.toArray⟩ : ByteArray) = tA at *
    generalize (⟨(frameOf l).toArray⟩ : ByteArray) = tF at *
    have hwr : IntKind.i64.wrap ((n0 : Int) + ((n : Int) + 8)) = (n0 : Int) + ((n : Int) + 8) := by rw [IntKind.wrap_i64]; omega
    have HPUT := Lib.hid (fun W h => refPut_any A n c l W.heap.size W h (Nat.le_refl _) hn46)
    have HSZ := Lib.hid (fun W => size_nat n W hn46)
    go_wp2_with fail
    go_upto_region 6 with (fail)
    go_cut [61] (fun t wx => t = .bool false ∧ Below w4.heap.size w4 wx)
    case first =>
      have hcb0 := HCb.out w4.drew _ hf4.sees.drew
      have hca0 := HCa.out w4.drew _ HA0.out.drew
      go_region_held3 (fun w' => (convert 23 9 (.slice A4 (n0 + (n + 8)) c4)).run Try.prog w' = .ok (.string tL) w' ∧ (convert 23 9 (.slice A0 n0 c0)).run Try.prog w' = .ok (.string tA) w') ((first | exact ⟨hcb0, hca0⟩ | exact ⟨hcb5, hca5, hcf5⟩)) (first
        | (go_at_call 50; refine (HSZ.out _).mono ?_; rintro e w' ⟨rfl, rfl⟩)
        | (go_at_call 49; refine (HPUT.out _ HA.out.drew).mono ?_; intro e w5 h; obtain ⟨A5, c5, rfl, hf5, hb5⟩ := h.at rfl HFL.out; clear h; have hcb5 := HCb.out w5 _ (hf4.sees.drew.on hb5); have hca5 := HCa.out w5 _ (HA0.out.drew.on hb5); have hcf5 := HCf.out w5 _ A5 c5 hf5.sees; have hSe := held_eq (S := fun w' => (convert 23 9 (.slice A4 (n0 + (n + 8)) c4)).run Try.prog w' = .ok (.string tL) w' ∧ (convert 23 9 (.slice A0 n0 c0)).run Try.prog w' = .ok (.string tA) w') (S2 := fun w' => (convert 23 9 (.slice A4 (n0 + (n + 8)) c4)).run Try.prog w' = .ok (.string tL) w' ∧ (convert 23 9 (.slice A0 n0 c0)).run Try.prog w' = .ok (.string tA) w' ∧ (convert 23 9 (.slice A5 (n + 8) c5)).run Try.prog w' = .ok (.string tF) w') (by assumption) (fun w h => And.intro h.1 h.2.1); simp only [hSe] at *; clear hSe))
      all_goals
        go_wp2_with fail
        go_meet
        exact ⟨rfl, (Below.refl w4.heap.size w4).drew.trans hb5⟩
    case rest =>
      obtain ⟨rfl, hbc⟩ := hcut
      have e1 : n0 + (n + 8) - n0 = n + 8 := by omega
      have hsl : ∀ W, (Instr.slice 23 (.slice A4 (n0 + (n + 8)) c4) (some (.int .i64 (n0 : Int))) none none).run Try.prog W = .ok (.slice (if c4 = n0 then A4 else A4.map (·.add n0)) (n + 8) (c4 - n0)) W := fun W => by
        have h := slice_from A4 (n0 + (n + 8)) c4 n0 (n0 : Int) rfl (by omega) W
        rw [e1] at h
        exact h
      have hfd := (hf4.on hbc).drop (k := n0) (by omega)
      rw [e1, HDR.out] at hfd
      generalize (if c4 = n0 then A4 else A4.map (·.add n0)) = Ad at *
      generalize c4 - n0 = cd at *
      have HFD := Lib.hid hfd
      have HS2 := Lib.hid (HA2.out.below (hbc.mono hz14))
      have HB := Lib.hid (hb14.trans (hbc.mono hz14))
      clear hfd hf4 hbw hb14 hbc HA2 HA HA0 HCb HCa HCf HPUT hbytes hsum hwr e1
      go_wp2_with (at_builtin; refine wpList_append_free _ rfl (.tmp 66) (.tmp 67) _ rfl w1.heap.size 5 i0 _ 1 sl_u8 hi0 hy0 hy1 hy2 rfl Ad (n + 8) cd (cbs (frameOf l)) rfl HFD.out (cbs_one _) _ A2 n2 c2 (cbs l2) rfl HS2.out (cbs_one _) hm3 hm4 HB.out.size ?_
                   intro A7 c7 w7 hap
                   have hf7 := hap.1
                   have hb7 := hap.below HFD.out HB.out HB.out.size (Nat.le_refl _)
                   rw [← cbs_append] at hf7
                   clear hap HFD HS2 HB)
      refine (take_any A7 (n + 8 + n2) c7 (frameOf l ++ l2) _ w7 hf7.sees (Nat.le_refl _) hf7.2.1 hf7.2.2.1 hm5).mono ?_
      intro e w8 h
      have hT := HT.out
      rw [HLEN.out] at hT
      obtain ⟨A8, c8, rfl, hf8, hb8⟩ := h.at hT HLEN.out
      rw [show ((n + 8 : Nat) : Int) = (n : Int) + 8 from by omega]
      have hbw8 := hb7.trans (hb8.mono hb7.size)
      have hcp := conv_sees' w8 _ A8 n c8 l hf8.sees
      have hcl := conv_sees' w8 _ A n c l (HA1.out.on hbw8)
      clear hT HT h hf7 hf8 hb7 hb8 hsl HA1
      generalize (⟨l.toArray⟩ : ByteArray) = tP at *
      have hmk := fun W => run_make_row' (P := Try.prog) 23 5 (.int .u8 0) 1 sl_u8 u8_row rfl .i64 .i64 m (by omega) (by omega) W
      go_wp2_with (go_at_call 50; refine (HSZ.out _).mono ?_; rintro e w' ⟨rfl, rfl⟩)
      have hs9 := zeros_sees w' m
      have hb9 := hbw8.alloc hbw8.size (.cells (madeCells #[.int .u8 0] m) 5)
      clear hbw8
      generalize w'.alloc (.cells (madeCells #[.int .u8 0] m) 5) = w9 at *
      generalize w'.heap.size = g9 at *
      by_cases hm4 : 4096 < m
      · have hm5 : (4096 : Int) < (m : Int) := by omega
        refine (put_long _ _ _ _ w9 hm4).mono ?_
        rintro e w10 ⟨rfl, rfl⟩
        go_wp2_with fail
        go_ret
        exact ⟨rfl, HB1.out.trans (hb9.mono HB1.out.size)⟩
      · have hm5 : ¬ (4096 : Int) < (m : Int) := by omega
        have hrl : (List.replicate m (0 : UInt8)).length = m := List.length_replicate
        refine (put_any none 0 0 [] _ m m (List.replicate m 0) w9 (Sees.none_ _ _ _) hs9 (by omega) (by decide)).mono ?_
        intro e w10 h
        obtain ⟨A10, c10, rfl, hf10, hb10⟩ := h.at (p := frameOf (List.replicate m 0)) (m := m + 8) (List.nil_append _) (by rw [frameOf_length, hrl])
        have hb10' := hb9.trans (hb10.mono hb9.size)
        have HW := Lib.hid (whole_any A10 (m + 8) c10 (frameOf (List.replicate m 0)) _ w10 hf10.sees (Nat.le_refl _) hf10.2.1 hf10.2.2.1 (by omega))
        have HWF := Lib.hid (wholeF_frame (List.replicate m 0) (by rw [hrl]; omega))
        have HRL := Lib.hid hrl
        clear h hf10 hb10 hs9 hb9 hrl hm4
        go_wp2_with fail
        refine HW.out.mono ?_
        intro e w11 h
        obtain ⟨A11, c11, rfl, _, hb11⟩ := h.at HWF.out HRL.out
        have hb11' := hb10'.trans (hb11.mono hb10'.size)
        clear h hb10' hb11 HW HWF HRL
        go_wp2_with fail
        go_ret
        exact ⟨rfl, HB1.out.trans (hb11'.mono HB1.out.size)⟩

set_option maxRecDepth 100000 in
theorem lifted (os : Os) (started : os.Started) (H : Type) (enc : TypeId × Value → H) :
    ReturnsInHanded {} Try.checked os 10 .any (Rows.framePutsSpec.pre6 enc Try.prog Try.f10 Rows.framePutsRow.domain false) (Rows.framePutsSpec.post enc Try.prog Try.f10 false true false false) := by
  refine returnsInHanded_of_change_sized (C := Try.checked) own started (by kernel_rfl) Try.func10
    (ChangeSpec.witness6 (enc := enc) (C := Try.checked) false ⟨#[], #[.slice none 0 0, .slice none 0 0, .slice none 0 0, .int .u8 0], []⟩ 8 (by kernel_rfl) (by kernel_rfl) (by kernel_rfl) (by kernel_rfl)) ?_
  intro W base args ds gs before hval0 hW hcnd hsz0 _
  have hval : ∀ (j : Nat) t v, Try.f10.params[j]? = some t → args[j]? = some v → Value.okWide Try.prog W .any base t v := hval0
  have hW' := hW
  obtain ⟨p, q, hA0, hV, rfl, hfz, hnd⟩ := hW
  have hA : DataW.TrodAll enc Try.prog W 0 (fun _ => true) true Try.f10.params.toList args.toList ds p := hA0
  have hsz : (DataW.weightsEach Try.prog (Try.f10.params.toList ++ Rows.framePutsSpec.plain.varTypes Try.prog) (ds ++ gs)).all (· ≤ reachBytes) = true := hsz0
  rw [Try.params10] at hA hval hsz
  obtain ⟨v0, vs0, d0, ds0, p0, q0, hargs, rfl, rfl, h0, r0⟩ := trodAll_cons hA
  obtain ⟨v1, vs1, d1, ds1, p1, q1, rfl, rfl, rfl, h1, r1⟩ := trodAll_cons r0
  obtain ⟨v2, vs2, d2, ds2, p2, q2, rfl, rfl, rfl, h2, r2⟩ := trodAll_cons r1
  obtain ⟨v3, vs3, d3, ds3, p3, q3, rfl, rfl, rfl, h3, r3⟩ := trodAll_cons r2
  obtain ⟨rfl, rfl, rfl⟩ := trodAll_nil r3
  obtain rfl : args = #[v0, v1, v2, v3] := by cases args; simp_all
  obtain ⟨rfl, rfl⟩ := trodVars_none hV
  obtain ⟨a0, len0, cap0, rfl⟩ := okWide_slice Try.underlying23 (hval 0 23 v0 rfl rfl)
  obtain ⟨a1, len1, cap1, rfl⟩ := okWide_slice Try.underlying23 (hval 1 23 v1 rfl rfl)
  obtain ⟨a2, len2, cap2, rfl⟩ := okWide_slice Try.underlying23 (hval 2 23 v2 rfl rfl)
  have k0 := h0
  have k1 := h1
  have k2 := h2
  have lt0 : ∀ x ∈ p0, x.block < W.heap.size := by obtain ⟨m, hm⟩ := k0; exact DataW.trod_lt m _ _ _ hm
  have lt1 : ∀ x ∈ p1, x.block < W.heap.size := by obtain ⟨m, hm⟩ := k1; exact DataW.trod_lt m _ _ _ hm
  have lt2 : ∀ x ∈ p2, x.block < W.heap.size := by obtain ⟨m, hm⟩ := k2; exact DataW.trod_lt m _ _ _ hm
  obtain ⟨m0, h0⟩ := h0
  obtain ⟨m1, h1⟩ := h1
  obtain ⟨m2, h2⟩ := h2
  have hw0 : ∀ n ∈ d0.weights Try.prog 23, n ≤ reachBytes := fun n hn => by
    have := List.all_eq_true.1 hsz _ (DataW.weights_mem_each (j := 0) (t := 23) rfl rfl n hn)
    simpa using this
  have hw1 : ∀ n ∈ d1.weights Try.prog 23, n ≤ reachBytes := fun n hn => by
    have := List.all_eq_true.1 hsz _ (DataW.weights_mem_each (j := 1) (t := 23) rfl rfl n hn)
    simpa using this
  have hw2 : ∀ n ∈ d2.weights Try.prog 23, n ≤ reachBytes := fun n hn => by
    have := List.all_eq_true.1 hsz _ (DataW.weights_mem_each (j := 2) (t := 23) rfl rfl n hn)
    simpa using this
  obtain ⟨hl0, hc0, hs0, l0, hse0⟩ := open_sized h0 hw0
  obtain ⟨hl1, hc1, hs1, l1, hse1⟩ := open_sized h1 hw1
  obtain ⟨hl2, hc2, hs2, l2, hse2⟩ := open_sized h2 hw2
  obtain ⟨a3, rfl, rfl, rfl, w3⟩ := open_int Try.underlying5 (hval 3 5 v3 rfl rfl) h3
  obtain ⟨y, hy⟩ : ∃ y : UInt8, a3 = (y.toNat : Int) := ⟨UInt8.ofNat a3.toNat, by have e := byte_of w3; unfold cb at e; injection e⟩
  subst hy
  clear hA0 hval0
  refine (walk a0 len0 cap0 l0 a1 len1 cap1 l1 a2 len2 cap2 l2 y W hse0 hse1 hse2 hs0 hs1 hs2).mono fun e W' ⟨he, bel⟩ => ?_
  subst he
  exact ⟨_, rfl, _, _, _, [], _, [], hW', trodAll_mk1 (shut_bool Try.underlying4 _), (trodAll_cons_mk (Below.trod laidOut (by kernel_rfl) (of_decide_eq_true (by kernel_rfl)) k0 bel lt0) (trodAll_cons_mk (Below.trod laidOut (by kernel_rfl) (of_decide_eq_true (by kernel_rfl)) k1 bel lt1) (trodAll_cons_mk (Below.trod laidOut (by kernel_rfl) (of_decide_eq_true (by kernel_rfl)) k2 bel lt2) (trodAll_cons_mk (shut_int Try.underlying5 w3) trodAll_mk0)))), rfl, bel.frame _, fun h => by cases h⟩

theorem over : Rows.framePutsRow.holds Try.pinned (OpenSpec.ofChange Rows.framePutsSpec) :=
  OpenClaim.holds_of_wide 10 Try.f10 rfl rfl rfl rfl rfl rfl rfl ⟨rfl, rfl, rfl, rfl, rfl⟩ rfl rfl rfl rfl rfl (by kernel_rfl) Try.func10 (by kernel_rfl)
    (of_decide_eq_true (by kernel_rfl)) (by unfold Func.isWrapper; first | (rw [if_pos (by decide +kernel)]; kernel_rfl) | (rw [if_neg (by decide +kernel)]; exact ⟨rfl, rfl⟩))
    (fun os started H enc _ => lifted os started H enc)

theorem proved : Rows.FramePutsSaid :=
  over
#print axioms proved
end Go.Proofs.Ytnbkphdkpncjfaa.framePuts
