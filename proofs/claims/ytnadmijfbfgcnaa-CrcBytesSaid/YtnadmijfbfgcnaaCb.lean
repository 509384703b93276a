/- CrcBytes: a sum's bytes tell it again. For every input, without a condition. -/
import Derived.Test.YtnadmijfbfgcnaaRows
import Derived.Test.YtnadmijfbfgcnaaFix2
import Derived.Test.YtnadmijfbfgcnaaOpen
import Derived.ProofKit
import Derived.OpenShut
namespace Go.Proofs.Ytnadmijfbfgcnaa.crcBytes
open Go.ChangeShapes Go.WideShapes Go.ChangeAt Go.RowKit
set_option linter.unusedVariables false

theorem own : ownKnob Try.prog.godebug = none := by kernel_rfl
theorem laidOut : laidOutB Try.prog = true := by kernel_rfl
theorem u8_cells : Try.prog.cellsOf 5 = 1 := by kernel_rfl

/-- a sum's four bytes are handed back -/
def Four (w : World) (n : Nat) (e : Ending) (w' : World) : Prop := ∃ g, e = .returned (.slice (some ⟨g, 0, none⟩) 4 4) ∧ Sees w' w'.heap.size (some ⟨g, 0, none⟩) 4 (cbs (le4 n)) ∧ Below w.heap.size w w'
theorem bytes_four (n : Nat) (w : World) (hn : n < 4294967296) : Calls Try.prog 33 #[.int .u32 (n : Int)] w (Four w n) :=
  (bytes_any n w hn).mono fun e w' ⟨he, hw⟩ => ⟨w.heap.size, he, by subst hw; exact le4_sees w n, by subst hw; exact (Below.refl _ _).alloc (Nat.le_refl _) _⟩
theorem refBytes_four (n : Nat) (w : World) (hn : n < 4294967296) : Calls Try.prog 34 #[.int .u32 (n : Int)] w (Four w n) :=
  (refBytes_any n w hn).mono fun e w' ⟨he, hw⟩ => ⟨w.heap.size, he, by subst hw; exact le4_sees w n, by subst hw; exact (Below.refl _ _).alloc (Nat.le_refl _) _⟩

theorem same_sum (a b : Nat) (ha : a < 4294967296) (hb : b < 4294967296) : (le4 a == le4 b) = ((a : Int) == (b : Int)) := by
  rw [Bool.eq_iff_iff, beq_iff_eq, beq_iff_eq]
  constructor
  · intro h
    rw [le4_inj ha hb h]
  · intro h
    rw [show a = b from by omega]

set_option maxHeartbeats 1600000 in
theorem walk (n : Nat) (hn : n < 4294967296) (A : Option Addr) (m c : Nat) (l : List UInt8) (w : World) (hs : Sees w w.heap.size A m (cbs l)) (hm : m ≤ maxLen) :
    Calls Try.prog 8 #[.int .u32 (n : Int), .slice A m c] w fun e w' => e = .returned (.bool true) ∧ Below w.heap.size w w' := by
  unfold maxLen at hm
  by_cases hz : 600 < m
  · have hz2 : (600 : Int) < (m : Int) := by omega
    go_enter Try.func8, Try.ntmps8
    go_wp2_with fail
    refine (fixed2_any _).mono ?_
    rintro e w1 ⟨rfl, hb1⟩
    go_wp2_with fail
    go_ret
    exact ⟨rfl, hb1⟩
  · have hz2 : ¬ (600 : Int) < (m : Int) := by omega
    have HB := Lib.hid (fun W => bytes_four n W hn)
    have HR := Lib.hid (fun W => refBytes_four n W hn)
    have hsame := same_sum (crcOf l) n (crc_lt l) hn
    clear hn
    go_enter Try.func8, Try.ntmps8
    go_wp2_with fail
    refine (fixed2_any _).mono ?_
    rintro e w1 ⟨rfl, hb1⟩
    have hs1 := hs.on hb1
    clear hs
    go_wp2_with fail
    have tok := True.intro
    have hd1 := hb1.drew
    go_region_with (first
      | (go_at_call 33; refine (HB.out _).mono ?_; rintro e w2 ⟨g2, rfl, hs2, hb2⟩; have hc2 := conv_sees' w2 _ _ 4 4 _ hs2)
      | (go_at_call 34; have tok2 := tok; clear tok; refine (HR.out _).mono ?_; rintro e w3 ⟨g3, rfl, hs3, hb3⟩; have hc3 := conv_sees' w3 _ _ 4 4 _ (hs2.on hb3); have hc3' := conv_sees' w3 _ _ 4 4 _ hs3)
      | (go_at_call 34; clear tok2; refine (HR.out _).mono ?_; rintro e w4 ⟨g4, rfl, hs4, hb4⟩)
      | (go_at_call 35; refine (check_any A (some ⟨g4, 0, none⟩) m c 4 4 l (le4 n) _ _ _ (((hs1.drew.on hb2).on hb3).on hb4) (Nat.le_refl _) hs4 (Nat.le_refl _) (by omega)).mono ?_; rintro e w5 ⟨rfl, hb5⟩)
      | (go_at_call 29; refine (refOf_any A m c l _ _ ((((hs1.drew.on hb2).on hb3).on hb4).on hb5) (by omega)).mono ?_; rintro e w6 ⟨rfl, rfl⟩))
    all_goals
      go_wp2_with fail
      go_ret
      exact ⟨rfl, bthen (bthen (bthen (bthen hd1 hb2) hb3) hb4) hb5⟩

set_option maxRecDepth 100000 in
theorem lifted (os : Os) (started : os.Started) (H : Type) (enc : TypeId × Value → H) :
    ReturnsInHanded {} Try.checked os 8 .any (Rows.crcBytesSpec.pre6 enc Try.prog Try.f8 Rows.crcBytesRow.domain false) (Rows.crcBytesSpec.post enc Try.prog Try.f8 false true false false) := by
  refine returnsInHanded_of_change (C := Try.checked) own started (by kernel_rfl) Try.func8
    (ChangeSpec.witness6 (enc := enc) (C := Try.checked) false ⟨#[], #[.int .u32 0, .slice none 0 0], []⟩ 8 (by kernel_rfl) (by kernel_rfl) (by kernel_rfl) (by kernel_rfl)) ?_
  intro W base args ds gs before hval0 hW hcnd _
  have hval : ∀ (j : Nat) t v, Try.f8.params[j]? = some t → args[j]? = some v → Value.okWide Try.prog W .any base t v := hval0
  have hW' := hW
  obtain ⟨p, q, hA0, hV, rfl, hfz, hnd⟩ := hW
  have hA : DataW.TrodAll enc Try.prog W 0 (fun _ => true) true Try.f8.params.toList args.toList ds p := hA0
  rw [Try.params8] at hA hval
  obtain ⟨v0, vs0, d0, ds0, p0, q0, hargs, rfl, rfl, h0, r0⟩ := trodAll_cons hA
  obtain ⟨v1, vs1, d1, ds1, p1, q1, rfl, rfl, rfl, h1, r1⟩ := trodAll_cons r0
  obtain ⟨rfl, rfl, rfl⟩ := trodAll_nil r1
  obtain rfl : args = #[v0, v1] := by cases args; simp_all
  obtain ⟨rfl, rfl⟩ := trodVars_none hV
  obtain ⟨a0, rfl, rfl, rfl, w0⟩ := open_int Try.underlying46 (hval 0 46 v0 rfl rfl) h0
  obtain ⟨a1, len1, cap1, rfl⟩ := okWide_slice Try.underlying23 (hval 1 23 v1 rfl rfl)
  have k1 := h1
  have lt1 : ∀ x ∈ p1, x.block < W.heap.size := by obtain ⟨m, hm⟩ := k1; exact DataW.trod_lt m _ _ _ hm
  obtain ⟨m1, h1⟩ := h1
  obtain ⟨hl1, hc1, l, hs⟩ := open_bytes Try.underlying23 Try.underlying5 u8_cells h1
  obtain ⟨n, hn⟩ : ∃ n : Nat, a0 = n := ⟨a0.toNat, by have := bounds_u32 w0; omega⟩
  subst hn
  have hnb : n < 4294967296 := by have := bounds_u32 w0; omega
  clear hA0 hval0
  refine (walk n hnb a1 len1 cap1 l W hs (Nat.le_trans hl1 hc1)).mono fun e W' ⟨he, bel⟩ => ?_
  subst he
  exact ⟨_, rfl, _, _, _, [], _, [], hW', trodAll_mk1 (shut_bool Try.underlying4 _), (trodAll_cons_mk (shut_int Try.underlying46 w0) (trodAll_cons_mk (Below.trod laidOut (by kernel_rfl) (of_decide_eq_true (by kernel_rfl)) k1 bel lt1) trodAll_mk0)), rfl, bel.frame _, fun h => by cases h⟩

theorem over : Rows.crcBytesRow.holds Try.pinned (OpenSpec.ofChange Rows.crcBytesSpec) :=
  OpenClaim.holds_of_wide 8 Try.f8 rfl rfl rfl rfl rfl rfl rfl ⟨rfl, rfl, rfl, rfl, rfl⟩ rfl rfl rfl rfl rfl (by kernel_rfl) Try.func8 (by kernel_rfl)
    (of_decide_eq_true (by kernel_rfl)) (by unfold Func.isWrapper; first | (rw [if_pos (by decide +kernel)]; kernel_rfl) | (rw [if_neg (by decide +kernel)]; exact ⟨rfl, rfl⟩))
    (fun os started H enc _ => lifted os started H enc)

theorem proved : Rows.CrcBytesSaid :=
  over
#print axioms proved
end Go.Proofs.Ytnadmijfbfgcnaa.crcBytes
