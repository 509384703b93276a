/- RaftRaw, its ways ahead of the node: too many acts, no node for such numbers. Whatever comes, the term, and what is committed, never fall; in a term it votes for one at most; committed entries stay; what was saved, one save upon another, is the state. For every input, without a condition. -/
import Derived.Test.YtlggkeoihpcdiaaRows
import Derived.ProofKit
import Derived.Deep.CutBlock
import Derived.Deep.RegionHeld3
import Derived.OpenShut
import Derived.Test.YtlggkeoihpcdiaaJ26
namespace Go.Proofs.Ytlggkeoihpcdiaa.raftRaw
open Go.ChangeShapes Go.WideShapes Go.ChangeAt Go.RowKit Go.Deep
set_option linter.unusedVariables false

theorem own : ownKnob Try.prog.godebug = none := by kernel_rfl
theorem laidOut : laidOutB Try.prog = true := by kernel_rfl
theorem bad_ways {id n el be : Int} (h : ¬ ((1 ≤ n ∧ n ≤ 7) ∧ (0 ≤ id ∧ id ≤ n - 1) ∧ (1 ≤ el ∧ el ≤ 1000) ∧ (1 ≤ be ∧ be ≤ el))) : n < 1 ∨ 7 < n ∨ id < 0 ∨ n ≤ id ∨ el < 1 ∨ 1000 < el ∨ be < 1 ∨ el < be := by omega
set_option maxRecDepth 100000 in
set_option maxHeartbeats 1600000 in
theorem walk_many (id n el be : Int) (A' : Option Addr) (n' c' : Nat) (w : World) (hz1 : 80 < n') :
    Calls Try.prog 6 #[.int .i64 id, .int .i64 n, .int .i64 el, .int .i64 be, .slice A' n' c'] w fun e w' => e = .returned (.bool true) ∧ Below w.heap.size w w' := by
  have hz2 : (80 : Int) < (n' : Int) := by omega
  go_enter Try.func6, Try.ntmps6
  go_wp2_with fail
  refine (fixed8_any _).mono ?_
  rintro e w1 ⟨rfl, hb1⟩
  go_wp2_with fail
  go_ret
  exact ⟨rfl, hb1⟩
set_option maxRecDepth 100000 in
set_option maxHeartbeats 16000000 in
theorem walk_bad (id n el be : Int) (A' : Option Addr) (n' c' : Nat) (w : World) (hz1 : ¬ 80 < n') (hok : ¬ ((1 ≤ n ∧ n ≤ 7) ∧ (0 ≤ id ∧ id ≤ n - 1) ∧ (1 ≤ el ∧ el ≤ 1000) ∧ (1 ≤ be ∧ be ≤ el))) :
    Calls Try.prog 6 #[.int .i64 id, .int .i64 n, .int .i64 el, .int .i64 be, .slice A' n' c'] w fun e w' => e = .returned (.bool true) ∧ Below w.heap.size w w' := by
  have hz2 : ¬ (80 : Int) < (n' : Int) := by omega
  clear hz1
  go_enter Try.func6, Try.ntmps6
  go_wp2_with fail
  refine (fixed8_any _).mono ?_
  rintro e w1 ⟨rfl, hb1⟩
  have HNW := Lib.hid (nNew_bad id n el be ⟨0, -1, []⟩ none 0 0 w1 hok)
  have HBAD := Lib.hid (bad_ways hok)
  have HB1 := Lib.hid hb1
  clear hok
  go_wp2_with fail
  refine HNW.out.mono ?_
  rintro e w2 ⟨rfl, hb2⟩
  have HB2 := Lib.hid hb2
  clear hb1 hb2 HNW hz2
  go_upto_region 6 with (fail)
  go_cut [75] (fun v wx => v = .bool true ∧ wx = w2)
  case first =>
    by_cases a1 : n < 1
    · as_aux_lemma =>
      go_wp2_with fail
      go_meet
      exact ⟨rfl, rfl⟩
    by_cases a2 : (7 : Int) < n
    · as_aux_lemma =>
      go_wp2_with fail
      go_meet
      exact ⟨rfl, rfl⟩
    by_cases a3 : id < 0
    · as_aux_lemma =>
      go_wp2_with fail
      go_meet
      exact ⟨rfl, rfl⟩
    by_cases a4 : n ≤ id
    · as_aux_lemma =>
      go_wp2_with fail
      go_meet
      exact ⟨rfl, rfl⟩
    by_cases a5 : el < 1
    · as_aux_lemma =>
      go_wp2_with fail
      go_meet
      exact ⟨rfl, rfl⟩
    by_cases a6 : (1000 : Int) < el
    · as_aux_lemma =>
      go_wp2_with fail
      go_meet
      exact ⟨rfl, rfl⟩
    by_cases a7 : be < 1
    · as_aux_lemma =>
      go_wp2_with fail
      go_meet
      exact ⟨rfl, rfl⟩
    have a8 : el < be := ((((((HBAD.out.resolve_left a1).resolve_left a2).resolve_left a3).resolve_left a4).resolve_left a5).resolve_left a6).resolve_left a7
    have q8 : decide (el < be) = true := decide_eq_true a8
    clear a8 HBAD
    go_wp2_with fail
    go_meet
    exact ⟨rfl, rfl⟩
  case rest =>
    obtain ⟨rfl, hwc⟩ := hcut
    subst hwc
    go_wp2_with fail
    go_ret
    exact ⟨rfl, bthen HB1.out HB2.out⟩
end Go.Proofs.Ytlggkeoihpcdiaa.raftRaw
