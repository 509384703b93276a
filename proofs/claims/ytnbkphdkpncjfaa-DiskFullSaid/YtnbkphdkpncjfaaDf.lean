/- DiskFull: a disk takes as many bytes as it may have, and no more. For every input, without a condition. -/
import Derived.Test.YtnbkphdkpncjfaaRows
import Derived.Test.YtnbkphdkpncjfaaFix4
import Derived.ProofKit
import Derived.OpenShut
namespace Go.Proofs.Ytnbkphdkpncjfaa.diskFull
open Go.ChangeShapes Go.WideShapes Go.ChangeAt Go.RowKit
set_option linter.unusedVariables false

theorem own : ownKnob Try.prog.godebug = none := by kernel_rfl
theorem laidOut : laidOutB Try.prog = true := by kernel_rfl

theorem zeros_sees (w : World) (m : Nat) : Sees (w.alloc (.cells (madeCells #[.int .u8 0] m) 5)) (w.alloc (.cells (madeCells #[.int .u8 0] m) 5)).heap.size (some ⟨w.heap.size, 0, none⟩) m (cbs (List.replicate m 0)) := by
  have h := sees_new w (madeCells #[.int .u8 0] m) 5
  have e : (madeCells #[Value.int .u8 0] m).toList = cbs (List.replicate m 0) := by
    rw [toList_madeCells_one]
    simp [cbs, cb]
  rw [e] at h
  have e2 : (madeCells #[Value.int .u8 0] m).size = m := by rw [← Array.length_toList, e]; simp
  rwa [e2] at h

set_option maxRecDepth 100000 in
set_option maxHeartbeats 1600000 in
theorem walk (less more : Nat) (w : World) (hl : less < 65536) (hm : more < 65536) :
    Calls Try.prog 13 #[.int .u16 (less : Int), .int .u16 (more : Int)] w fun e w' => e = .returned (.bool true) ∧ Below w.heap.size w w' := by
  obtain ⟨m, hmn⟩ : ∃ m : Nat, (1048576 : Int) - (less : Int) = (m : Int) := ⟨1048576 - less, by omega⟩
  have hm20 : m ≤ 1048576 := by omega
  have hmk := fun W => run_make_row' (P := Try.prog) 23 5 (.int .u8 0) 1 sl_u8 u8_row rfl .i64 .i64 m (by omega) (by omega) W
  have hmk2 := fun W => run_make_row' (P := Try.prog) 23 5 (.int .u8 0) 1 sl_u8 u8_row rfl .i64 .i64 more (by omega) (by omega) W
  have e1 : writeF [] (List.replicate m 0) = (List.replicate m 0, 0) := by unfold writeF; rw [if_neg (by simp; omega)]; rfl
  have e2 : writeF (List.replicate m 0) (List.replicate more 0) = if less < more then (List.replicate m 0, 7) else (List.replicate (m + more) 0, 0) := by
    unfold writeF
    simp only [List.length_replicate]
    by_cases h : less < more
    · rw [if_pos h, if_pos (by omega)]
    · rw [if_neg h, if_neg (by omega), List.replicate_append_replicate]
  have hlm : ((less : Int) < (more : Int)) ↔ less < more := by omega
  have E1 := Lib.hid e1
  have E2 := Lib.hid e2
  have HLM := Lib.hid hlm
  clear e1 e2 hlm
  go_enter Try.func13, Try.ntmps13
  go_wp2_with fail
  refine (fixed4_any _).mono ?_
  rintro e w1 ⟨rfl, hb1⟩
  go_wp2_with fail
  refine (dNew_any w1).mono ?_
  rintro e w2 ⟨rfl, hd2, hb2⟩
  go_wp2_with fail
  have hs3 := zeros_sees w2 m
  have hd3 := hd2.alloc (.cells (madeCells #[.int .u8 0] m) 5)
  have hb3 := hb2.alloc hb2.size (.cells (madeCells #[.int .u8 0] m) 5)
  refine (dWrite_any _ _ 0 [] _ m m (List.replicate m 0) _ hd3 hs3 (by omega) hb3.size (by simp)).mono ?_
  rintro e w4 ⟨rfl, hd4, hb4⟩
  rw [E1.out] at hd4 ⊢
  simp only at hd4
  have hb4' := hb3.trans hb4
  clear hs3 hd3 hb3 hd2 hb2 hb4
  go_wp2_with fail
  have hs5 := zeros_sees w4 more
  have hd5 := hd4.alloc (.cells (madeCells #[.int .u8 0] more) 5)
  have hb5 := hb4'.alloc hb4'.size (.cells (madeCells #[.int .u8 0] more) 5)
  refine (dWrite_any _ _ 0 (List.replicate m 0) _ more more (List.replicate more 0) _ hd5 hs5 (by omega) hb5.size (by simpa using hm20)).mono ?_
  rintro e w6 ⟨rfl, hd6, hb6⟩
  have hb6' := hb1.trans ((hb5.trans hb6).mono hb1.size)
  rw [E2.out] at hd6 ⊢
  clear hs5 hd5 hb5 hd4 hb4' hb6 hb1 hmk hmk2 E1 E2
  by_cases hlt : less < more
  · rw [if_pos hlt] at hd6 ⊢
    simp only at hd6
    have h1 : (less : Int) < (more : Int) := HLM.out.2 hlt
    have HL := Lib.hid (dLen_any _ _ _ _ w6 hd6)
    rw [List.length_replicate] at HL
    clear hd6 hlt
    go_wp2_with (go_at_call 60; refine HL.out.mono ?_; rintro e w' ⟨rfl, rfl⟩)
    go_ret
    exact ⟨rfl, hb6'⟩
  · rw [if_neg hlt] at hd6 ⊢
    simp only at hd6
    have h1 : ¬ (less : Int) < (more : Int) := fun h => hlt (HLM.out.1 h)
    have HL := Lib.hid (dLen_any _ _ _ _ w6 hd6)
    rw [List.length_replicate] at HL
    clear hd6 hlt
    go_wp2_with (go_at_call 60; refine HL.out.mono ?_; rintro e w' ⟨rfl, rfl⟩)
    go_ret
    exact ⟨rfl, hb6'⟩

set_option maxRecDepth 100000 in
theorem lifted (os : Os) (started : os.Started) (H : Type) (enc : TypeId × Value → H) :
    ReturnsInHanded {} Try.checked os 13 .any (Rows.diskFullSpec.pre6 enc Try.prog Try.f13 Rows.diskFullRow.domain false) (Rows.diskFullSpec.post enc Try.prog Try.f13 false true false false) := by
  refine returnsInHanded_of_change (C := Try.checked) own started (by kernel_rfl) Try.func13
    (ChangeSpec.witness6 (enc := enc) (C := Try.checked) false ⟨#[], #[.int .u16 0, .int .u16 0], []⟩ 8 (by kernel_rfl) (by kernel_rfl) (by kernel_rfl) (by kernel_rfl)) ?_
  intro W base args ds gs before hval0 hW hcnd _
  have hval : ∀ (j : Nat) t v, Try.f13.params[j]? = some t → args[j]? = some v → Value.okWide Try.prog W .any base t v := hval0
  have hW' := hW
  obtain ⟨p, q, hA0, hV, rfl, hfz, hnd⟩ := hW
  have hA : DataW.TrodAll enc Try.prog W 0 (fun _ => true) true Try.f13.params.toList args.toList ds p := hA0
  rw [Try.params13] at hA hval
  obtain ⟨v0, vs0, d0, ds0, p0, q0, hargs, rfl, rfl, h0, r0⟩ := trodAll_cons hA
  obtain ⟨v1, vs1, d1, ds1, p1, q1, rfl, rfl, rfl, h1, r1⟩ := trodAll_cons r0
  obtain ⟨rfl, rfl, rfl⟩ := trodAll_nil r1
  obtain rfl : args = #[v0, v1] := by cases args; simp_all
  obtain ⟨rfl, rfl⟩ := trodVars_none hV
  obtain ⟨a0, rfl, rfl, rfl, w0⟩ := open_int Try.underlying81 (hval 0 81 v0 rfl rfl) h0
  obtain ⟨a1, rfl, rfl, rfl, w1⟩ := open_int Try.underlying81 (hval 1 81 v1 rfl rfl) h1
  obtain ⟨n0, hn0⟩ : ∃ n : Nat, a0 = n := ⟨a0.toNat, by have := bounds_u16 w0; omega⟩
  subst hn0
  obtain ⟨n1, hn1⟩ : ∃ n : Nat, a1 = n := ⟨a1.toNat, by have := bounds_u16 w1; omega⟩
  subst hn1
  have hb0 : n0 < 65536 := by have := bounds_u16 w0; omega
  have hb1 : n1 < 65536 := by have := bounds_u16 w1; omega
  clear hA0 hval0
  simp only [List.append_nil] at hW'
  refine (walk n0 n1 W hb0 hb1).mono fun e W' ⟨he, bel⟩ => ?_
  subst he
  exact ⟨_, rfl, _, _, _, [], [], [], hW', trodAll_mk1 (shut_bool Try.underlying4 _), (trodAll_cons_mk (shut_int Try.underlying81 w0) (trodAll_cons_mk (shut_int Try.underlying81 w1) trodAll_mk0)), rfl, bel.frame _, fun h => by cases h⟩

theorem over : Rows.diskFullRow.holds Try.pinned (OpenSpec.ofChange Rows.diskFullSpec) :=
  OpenClaim.holds_of_wide 13 Try.f13 rfl rfl rfl rfl rfl rfl rfl ⟨rfl, rfl, rfl, rfl, rfl⟩ rfl rfl rfl rfl rfl (by kernel_rfl) Try.func13 (by kernel_rfl)
    (of_decide_eq_true (by kernel_rfl)) (by unfold Func.isWrapper; first | (rw [if_pos (by decide +kernel)]; kernel_rfl) | (rw [if_neg (by decide +kernel)]; exact ⟨rfl, rfl⟩))
    (fun os started H enc _ => lifted os started H enc)

theorem proved : Rows.DiskFullSaid :=
  over
#print axioms proved
end Go.Proofs.Ytnbkphdkpncjfaa.diskFull
