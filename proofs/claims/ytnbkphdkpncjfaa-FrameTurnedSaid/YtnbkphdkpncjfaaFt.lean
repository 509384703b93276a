/- FrameTurned: a frame of which one byte is another one isn't read, whatever stands behind; nor a part of one. For every input, without a condition. -/
import Derived.Test.YtnbkphdkpncjfaaRows
import Derived.Test.YtnbkphdkpncjfaaFix3
import Derived.Test.YtnbkphdkpncjfaaOpen2
import Derived.ProofKit
import Derived.OpenShut
import Derived.SizedLaws
namespace Go.Proofs.Ytnbkphdkpncjfaa.frameTurned
open Go.ChangeShapes Go.WideShapes Go.ChangeAt Go.RowKit Go.Deep
set_option linter.unusedVariables false

theorem own : ownKnob Try.prog.godebug = none := by kernel_rfl
theorem laidOut : laidOutB Try.prog = true := by kernel_rfl

theorem xor_cb (x y : UInt8) : bits BinOp.xor IntKind.u8 (x.toNat : Int) (y.toNat : Int) = ((x ^^^ y).toNat : Int) := by
  rw [u8_xor_nat _ _ (UInt8.toNat_lt x) (UInt8.toNat_lt y), UInt8.toNat_xor]
theorem xor_ne (x y : UInt8) (h : y ≠ 0) : x ^^^ y ≠ x := by
  intro e
  have := congrArg (x ^^^ ·) e
  simp only [← UInt8.xor_assoc, UInt8.xor_self, UInt8.zero_xor] at this
  exact h this
theorem at_of (t : Int) (n : Nat) (h0 : 0 < n) (hn : n ≤ 100000) : ∃ k : Nat, k < n ∧ wrap64 ((IntKind.u64.wrap t).tmod (n : Int)) = (k : Int) := by
  have e : IntKind.u64.wrap t = t % 18446744073709551616 := by simp [IntKind.wrap, IntKind.bits, IntKind.signed]
  have h1 : 0 ≤ IntKind.u64.wrap t := by rw [e]; exact Int.emod_nonneg _ (by decide)
  generalize IntKind.u64.wrap t = z at h1
  have h2 : z.tmod (n : Int) = z % (n : Int) := Int.tmod_eq_emod_of_nonneg h1
  have h3 : 0 ≤ z % (n : Int) := Int.emod_nonneg _ (by omega)
  have h4 : z % (n : Int) < (n : Int) := Int.emod_lt_of_pos _ (by omega)
  rw [h2]
  generalize z % (n : Int) = y at h3 h4
  refine ⟨y.toNat, by omega, ?_⟩
  unfold wrap64
  omega

set_option maxRecDepth 100000 in
set_option maxHeartbeats 1600000 in
theorem walk (A : Option Addr) (n c : Nat) (l : List UInt8) (A' : Option Addr) (n' c' : Nat) (l' : List UInt8) (t : Int) (by_ : UInt8) (w : World) (hs : Sees w w.heap.size A n (cbs l)) (hs' : Sees w w.heap.size A' n' (cbs l'))
    (hn : n ≤ 140737488351232) (hn' : n' ≤ 140737488351232) (hc' : n' ≤ c') :
    Calls Try.prog 11 #[.slice A n c, .slice A' n' c', .int .i64 t, .int .u8 (by_.toNat : Int)] w fun e w' => e = .returned (.bool true) ∧ Below w.heap.size w w' := by
  by_cases hz1 : 700 < n + n'
  · have hz2 : (700 : Int) < (n : Int) + (n' : Int) := by omega
    go_enter Try.func11, Try.ntmps11
    go_wp2_with fail
    refine (fixed3_any _).mono ?_
    rintro e w1 ⟨rfl, hb1⟩
    go_wp2_with fail
    go_ret
    exact ⟨rfl, hb1⟩
  · have hz2 : ¬ (700 : Int) < (n : Int) + (n' : Int) := by omega
    by_cases hz5 : by_ = 0
    · subst hz5
      go_enter Try.func11, Try.ntmps11
      go_wp2_with fail
      refine (fixed3_any _).mono ?_
      rintro e w1 ⟨rfl, hb1⟩
      go_wp2_with fail
      go_ret
      exact ⟨rfl, hb1⟩
    · have hz6 : (((by_.toNat : Nat) : Int) == 0) = false := by
        rw [beq_eq_false_iff_ne]
        intro h
        exact hz5 (UInt8.toNat_inj.1 (by simp; omega))
      have hlen : l.length = n := by have := hs.1; simpa using this
      obtain ⟨i0, hi0, hy0, hy1, hy2⟩ := info_parts u8_row
      obtain ⟨k, hk, hat0⟩ := at_of t (n + 8) (by omega) (by omega)
      have hat : wrap64 ((IntKind.u64.wrap t).tmod ((n : Int) + 8)) = (k : Int) := hat0
      clear hat0
      have hfl : (frameOf l).length = n + 8 := by rw [frameOf_length, hlen]
      have hkl : k < (frameOf l).length := by omega
      obtain ⟨x0, hx0⟩ : ∃ x0, (frameOf l)[k]? = some x0 := ⟨_, List.getElem?_eq_getElem hkl⟩
      obtain ⟨y, hy⟩ : ∃ y, y = x0 ^^^ by_ := ⟨_, rfl⟩
      have HX := Lib.hid (xor_cb x0 by_)
      rw [← hy] at HX
      have hyn : (frameOf l)[k]? ≠ some y := by
        rw [hx0, hy]
        intro h
        injection h with h
        exact xor_ne _ _ hz5 h.symm
      have hp4 : l.length ≤ 4096 := by omega
      have HT1 := Lib.hid (takeF_part l k hp4 (by omega))
      have HT2 := Lib.hid (takeF_turned l l' k y hp4 hkl hyn)
      have hL0 : ([] ++ frameOf l : List UInt8) = frameOf l := List.nil_append _
      have hn96 : n ≤ 4096 := by omega
      have hn0 : 0 ≤ 70368744177664 := by omega
      have HKL := Lib.hid hkl
      have HFL := Lib.hid hfl
      have HK := Lib.hid hk
      have HL0 := Lib.hid hL0
      have HX0 := Lib.hid hx0
      clear hy hyn hlen hkl hfl hL0 hz5 hp4 hx0
      go_enter Try.func11, Try.ntmps11
      go_wp2_with fail
      refine (fixed3_any _).mono ?_
      rintro e w1 ⟨rfl, hb1⟩
      have hs1 := hs.on hb1
      have hs1' := hs'.on hb1
      clear hs hs'
      go_wp2_with fail
      refine (put_any none 0 0 [] A n c l w1 (Sees.none_ _ _ _) hs1 hn96 hn0).mono ?_
      intro e w2 h
      obtain ⟨A1, c1, rfl, hf2, hb2⟩ := h.at HL0.out HFL.out
      clear h
      have hs2' := hs1'.below hb2
      clear hs1 hs1'
      have hk8 : k ≤ c1 := Nat.le_trans (Nat.le_of_lt HK.out) hf2.2.1
      have hsl := fun W => slice_upto A1 (n + 8) c1 (k : Int) k rfl hk8 W
      have hc1m : c1 ≤ maxLen := hf2.2.2.1
      have hk' : (k : Int) < (n : Int) + 8 := by have := HK.out; omega
      have hk0 : (0 : Int) ≤ (k : Int) := by omega
      go_wp2_with fail
      have hm8 : c1 ≤ maxLen := hc1m
      have ht1 := hf2.sees.take (k := k) (Nat.le_of_lt HK.out)
      have hd1 : (cbs (frameOf l)).take k = cbs ((frameOf l).take k) := by simp [cbs, List.map_take]
      rw [hd1] at ht1
      have hk47 : k ≤ 140737488355328 := by have := HK.out; omega
      refine (take_any A1 k c1 ((frameOf l).take k) _ w2 ht1 (Nat.le_refl _) hk8 hm8 hk47).mono ?_
      intro e w3 h
      obtain ⟨A3, c3, rfl, _, hb3⟩ := h
      have he1 := HT1.out
      have hn1 := takeF_none _ (show (takeF ((frameOf l).take k)).e ≠ 0 by rw [he1]; decide)
      rw [he1, hn1.1, hn1.2]
      have hf3 := hf2.on hb3
      have hb23 := hb2.trans (hb3.mono hb2.size)
      have hs3' := hs2'.keep (w' := w3) (fun p hp => hb3.cell (Nat.lt_of_lt_of_le hp hb2.size))
      clear hf2 hb2 hb3 hs2' ht1 hd1 he1 hn1 HT1 hsl
      obtain ⟨g, off, u, rfl, hg0, hgl, hu, hcell, hfr⟩ := hf3.at_ (k := k) HK.out
      have hu' : cb x0 = u := by rw [cbs_get, HX0.out] at hu; simpa using hu
      subst hu'
      unfold cb at hcell
      have hx := HX.out
      have hf4 := hf3.put (k := k) (cb y) HK.out
      have hset : (cbs (frameOf l)).set k (cb y) = cbs ((frameOf l).set k y) := by simp [cbs, List.map_set]
      rw [hset] at hf4
      have HF := Lib.hid hf4
      have HB := Lib.hid (hb23.setCell (p := ⟨g, off + k, none⟩) hg0 (cb y))
      have HS := Lib.hid (hs3'.setCell (p := ⟨g, off + k, none⟩) hg0 (cb y))
      have hm1 : n + 8 + n' ≤ maxLen := by have : n + 8 + n' ≤ 140737488355328 := by omega
                                           exact Nat.le_trans this (by decide)
      have hm2 : (n + 8 + n') * 1 ≤ 140737488355328 := by omega
      have hm3 : n + 8 + n' ≤ 140737488355328 := by omega
      clear hu hf3 hf4 hset hb23 hs3' HX HX0 hg0 hgl
      go_wp2_with (at_builtin; refine wpList_append_free _ rfl (.tmp 58) (.tmp 59) _ rfl w1.heap.size 5 i0 _ 1 sl_u8 hi0 hy0 hy1 hy2 rfl _ (n + 8) c1 (cbs ((frameOf l).set k y)) rfl HF.out (cbs_one _) w1.heap.size A' n' c' (cbs l') rfl HS.out (cbs_one _) hm1 hm2 HB.out.size ?_
                   intro A5 c5 w5 ha
                   have hf5 := ha.1
                   have hb5 := ha.below HF.out HB.out HB.out.size (Nat.le_refl _)
                   rw [← cbs_append] at hf5
                   clear ha HF HB HS)
      refine (take_any A5 (n + 8 + n') c5 ((frameOf l).set k y ++ l') _ w5 hf5.sees (Nat.le_refl _) hf5.2.1 hf5.2.2.1 hm3).mono ?_
      intro e w6 h
      obtain ⟨A6, c6, rfl, _, hb6⟩ := h
      have he2 := HT2.out
      have hn2 := takeF_none _ he2
      rw [hn2.1, hn2.2]
      generalize (takeF ((frameOf l).set k y ++ l')).e = E at *
      have he3 : ((E : Int) != 0) = true := by rw [bne_iff_ne]; omega
      have hb7 := bthen (hb1.trans (hb5.mono hb1.size)) hb6
      clear hf5 hb5 hb6 hb1 HT2 he2 hn2
      go_wp2_with fail
      go_ret
      exact ⟨rfl, hb7⟩

set_option maxRecDepth 100000 in
theorem lifted (os : Os) (started : os.Started) (H : Type) (enc : TypeId × Value → H) :
    ReturnsInHanded {} Try.checked os 11 .any (Rows.frameTurnedSpec.pre6 enc Try.prog Try.f11 Rows.frameTurnedRow.domain false) (Rows.frameTurnedSpec.post enc Try.prog Try.f11 false true false false) := by
  refine returnsInHanded_of_change_sized (C := Try.checked) own started (by kernel_rfl) Try.func11
    (ChangeSpec.witness6 (enc := enc) (C := Try.checked) false ⟨#[], #[.slice none 0 0, .slice none 0 0, .int .i64 0, .int .u8 0], []⟩ 8 (by kernel_rfl) (by kernel_rfl) (by kernel_rfl) (by kernel_rfl)) ?_
  intro W base args ds gs before hval0 hW hcnd hsz0 _
  have hval : ∀ (j : Nat) t v, Try.f11.params[j]? = some t → args[j]? = some v → Value.okWide Try.prog W .any base t v := hval0
  have hW' := hW
  obtain ⟨p, q, hA0, hV, rfl, hfz, hnd⟩ := hW
  have hA : DataW.TrodAll enc Try.prog W 0 (fun _ => true) true Try.f11.params.toList args.toList ds p := hA0
  have hsz : (DataW.weightsEach Try.prog (Try.f11.params.toList ++ Rows.frameTurnedSpec.plain.varTypes Try.prog) (ds ++ gs)).all (· ≤ reachBytes) = true := hsz0
  rw [Try.params11] at hA hval hsz
  obtain ⟨v0, vs0, d0, ds0, p0, q0, hargs, rfl, rfl, h0, r0⟩ := trodAll_cons hA
  obtain ⟨v1, vs1, d1, ds1, p1, q1, rfl, rfl, rfl, h1, r1⟩ := trodAll_cons r0
  obtain ⟨v2, vs2, d2, ds2, p2, q2, rfl, rfl, rfl, h2, r2⟩ := trodAll_cons r1
  obtain ⟨v3, vs3, d3, ds3, p3, q3, rfl, rfl, rfl, h3, r3⟩ := trodAll_cons r2
  obtain ⟨rfl, rfl, rfl⟩ := trodAll_nil r3
  obtain rfl : args = #[v0, v1, v2, v3] := by cases args; simp_all
  obtain ⟨rfl, rfl⟩ := trodVars_none hV
  obtain ⟨a0, len0, cap0, rfl⟩ := okWide_slice Try.underlying23 (hval 0 23 v0 rfl rfl)
  obtain ⟨a1, len1, cap1, rfl⟩ := okWide_slice Try.underlying23 (hval 1 23 v1 rfl rfl)
  have k0 := h0
  have k1 := h1
  have lt0 : ∀ x ∈ p0, x.block < W.heap.size := by obtain ⟨m, hm⟩ := k0; exact DataW.trod_lt m _ _ _ hm
  have lt1 : ∀ x ∈ p1, x.block < W.heap.size := by obtain ⟨m, hm⟩ := k1; exact DataW.trod_lt m _ _ _ hm
  obtain ⟨m0, h0⟩ := h0
  obtain ⟨m1, h1⟩ := h1
  have hw0 : ∀ n ∈ d0.weights Try.prog 23, n ≤ reachBytes := fun n hn => by
    have := List.all_eq_true.1 hsz _ (DataW.weights_mem_each (j := 0) (t := 23) rfl rfl n hn)
    simpa using this
  have hw1 : ∀ n ∈ d1.weights Try.prog 23, n ≤ reachBytes := fun n hn => by
    have := List.all_eq_true.1 hsz _ (DataW.weights_mem_each (j := 1) (t := 23) rfl rfl n hn)
    simpa using this
  obtain ⟨hl0, hc0, hs0, l0, hse0⟩ := open_sized h0 hw0
  obtain ⟨hl1, hc1, hs1, l1, hse1⟩ := open_sized h1 hw1
  obtain ⟨a2, rfl, rfl, rfl, w2⟩ := open_int Try.underlying3 (hval 2 3 v2 rfl rfl) h2
  obtain ⟨a3, rfl, rfl, rfl, w3⟩ := open_int Try.underlying5 (hval 3 5 v3 rfl rfl) h3
  obtain ⟨y, hy⟩ : ∃ y : UInt8, a3 = (y.toNat : Int) := ⟨UInt8.ofNat a3.toNat, by have e := byte_of w3; unfold cb at e; injection e⟩
  subst hy
  clear hA0 hval0
  refine (walk a0 len0 cap0 l0 a1 len1 cap1 l1 a2 y W hse0 hse1 hs0 hs1 hl1).mono fun e W' ⟨he, bel⟩ => ?_
  subst he
  exact ⟨_, rfl, _, _, _, [], _, [], hW', trodAll_mk1 (shut_bool Try.underlying4 _), (trodAll_cons_mk (Below.trod laidOut (by kernel_rfl) (of_decide_eq_true (by kernel_rfl)) k0 bel lt0) (trodAll_cons_mk (Below.trod laidOut (by kernel_rfl) (of_decide_eq_true (by kernel_rfl)) k1 bel lt1) (trodAll_cons_mk (shut_int Try.underlying3 w2) (trodAll_cons_mk (shut_int Try.underlying5 w3) trodAll_mk0)))), rfl, bel.frame _, fun h => by cases h⟩

theorem over : Rows.frameTurnedRow.holds Try.pinned (OpenSpec.ofChange Rows.frameTurnedSpec) :=
  OpenClaim.holds_of_wide 11 Try.f11 rfl rfl rfl rfl rfl rfl rfl ⟨rfl, rfl, rfl, rfl, rfl⟩ rfl rfl rfl rfl rfl (by kernel_rfl) Try.func11 (by kernel_rfl)
    (of_decide_eq_true (by kernel_rfl)) (by unfold Func.isWrapper; first | (rw [if_pos (by decide +kernel)]; kernel_rfl) | (rw [if_neg (by decide +kernel)]; exact ⟨rfl, rfl⟩))
    (fun os started H enc _ => lifted os started H enc)

theorem proved : Rows.FrameTurnedSaid :=
  over
#print axioms proved
end Go.Proofs.Ytnbkphdkpncjfaa.frameTurned
