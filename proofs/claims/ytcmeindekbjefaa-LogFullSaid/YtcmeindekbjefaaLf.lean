/- LogFull: a log takes as many entries as it may have, and no more. For every input, without a condition. -/
import Derived.Test.YtcmeindekbjefaaRows
import Derived.Test.YtcmeindekbjefaaFix7
import Derived.ProofKit
import Derived.OpenShut
namespace Go.Proofs.Ytcmeindekbjefaa.logFull
open Go.ChangeShapes Go.WideShapes Go.ChangeAt Go.RowKit
set_option linter.unusedVariables false

theorem own : ownKnob Try.prog.godebug = none := by kernel_rfl
theorem laidOut : laidOutB Try.prog = true := by kernel_rfl

theorem term_rep (n : Nat) (e : Ent) (hn : 0 < n) : termF (List.replicate n e) (n : Int) = (e.t, true) := by
  have h := termF_at (es := List.replicate n e) (j := n - 1) (by simp; omega)
  rw [show ((n - 1 : Nat) : Int) + 1 = (n : Int) from by omega] at h
  rw [h]
  simp
theorem last_rep (n : Nat) (e : Ent) (he : 0 ≤ e.t) : lastT (List.replicate n e) ≤ e.t := by
  unfold lastT
  rw [List.length_replicate]
  rcases Nat.eq_zero_or_pos n with h | h
  · subst h
    exact he
  · rw [term_rep n e h]
    exact Int.le_refl _
theorem add_rep (n : Nat) (e : Ent) (he : 0 ≤ e.t) (hn : n < 1024) : addF (List.replicate n e) e = (List.replicate (n + 1) e, 0) := by
  unfold addF
  rw [if_neg (by have := last_rep n e he; omega), if_neg (by simp; omega), List.replicate_succ']
theorem put_none (n : Nat) (e : Ent) (hn : 0 < n) : putF (List.replicate n e) n e.t [] = (List.replicate n e, 0, 0) := by
  have h : fitsF (List.replicate n e) n e.t [] = 0 := by unfold fitsF fallF; rw [term_rep n e hn]; simp
  unfold putF
  rw [h, if_neg (by omega), if_pos (show thereF (List.replicate n e) n [] = ([] : List Ent).length from rfl)]
theorem put_rep (n m : Nat) (hn : 0 < n) : putF (List.replicate n ⟨1, no⟩) n 1 (List.replicate m ⟨2, no⟩) = if m = 0 then (List.replicate n ⟨1, no⟩, 0, 0) else if 1024 < n + m then (List.replicate n ⟨1, no⟩, 0, 7) else (List.replicate n ⟨1, no⟩ ++ List.replicate m ⟨2, no⟩, (n : Int) + 1, 0) := by
  have hfall : fallF 1 (List.replicate m ⟨2, no⟩) = false := fallF_none _ _ (fun k hk => by
    have h2 : (List.replicate m (⟨2, no⟩ : Ent))[k].t = 2 := by simp
    rw [h2]
    cases k with
    | zero => rw [upT_zero]; omega
    | succ k => rw [upT_succ _ _ _ (by omega)]; simp)
  have h : fitsF (List.replicate n ⟨1, no⟩) n 1 (List.replicate m ⟨2, no⟩) = 0 := by unfold fitsF; rw [term_rep n _ hn, hfall]; simp
  have ht : thereF (List.replicate n ⟨1, no⟩) n (List.replicate m ⟨2, no⟩) = 0 := thereF_eq _ _ _ 0 (Nat.zero_le _) (fun j _ h => absurd h (by omega)) (fun hk => by
    rw [termF_out (.inr (by simp; omega))]
    simp)
  unfold putF
  rw [h, ht, if_neg (by omega), List.length_replicate]
  by_cases hm : m = 0
  · rw [if_pos hm, if_pos hm.symm]
  · rw [if_neg hm, if_neg (fun h => hm h.symm)]
    by_cases hf : 1024 < n + m
    · rw [if_pos hf, if_pos (by omega)]
    · rw [if_neg hf, if_neg (by omega)]
      have e1 : ((n : Int) + ((0 : Nat) : Int)).toNat = n := by omega
      rw [e1, List.drop_zero, List.take_of_length_le (by simp)]
      simp

theorem put_fits (n m : Nat) (hn : 0 < n) (hnm : ¬ 1024 < n + m) : ∃ es r, putF (List.replicate n ⟨1, no⟩) n 1 (List.replicate m ⟨2, no⟩) = (es, r, 0) ∧ es.length = n + m ∧ lastT es ≤ 9 := by
  rw [put_rep n m hn]
  by_cases hm : m = 0
  · rw [if_pos hm]
    exact ⟨_, _, rfl, by simp [hm], Int.le_trans (last_rep n ⟨1, no⟩ (by decide)) (by decide)⟩
  · rw [if_neg hm, if_neg hnm]
    refine ⟨_, _, rfl, by simp, ?_⟩
    have hl : (List.replicate n (⟨1, no⟩ : Ent) ++ List.replicate m (⟨2, no⟩ : Ent)).length = n + m := by simp
    have h := termF_at (es := List.replicate n (⟨1, no⟩ : Ent) ++ List.replicate m (⟨2, no⟩ : Ent)) (j := n + m - 1) (by rw [hl]; omega)
    rw [show ((n + m - 1 : Nat) : Int) + 1 = ((n + m : Nat) : Int) from by omega] at h
    unfold lastT
    rw [hl, h, List.getElem_append_right (by simp; omega)]
    simp
theorem add_full (es : List Ent) (h : es.length = 1024) (hl : lastT es ≤ 9) : addF es ⟨9, no⟩ = (es, 7) := by
  unfold addF
  rw [if_neg (by simp only; omega), if_pos (by omega)]

set_option maxRecDepth 100000 in
set_option maxHeartbeats 1600000 in
theorem walk (less more : Nat) (w : World) (hl : less < 256) (hm : more < 256) :
    Calls Try.prog 7 #[.int .u8 (less : Int), .int .u8 (more : Int)] w fun e w' => e = .returned (.bool true) ∧ Below w.heap.size w w' := by
  obtain ⟨n, hmn⟩ : ∃ n : Nat, (1024 : Int) - (less : Int) = (n : Int) := ⟨1024 - less, by omega⟩
  have hn0 : 0 < n := by omega
  have hn1 : n ≤ 1024 := by omega
  obtain ⟨i0, hi0, hz0, hz1, hz2⟩ := info_parts ent_row
  have hmk : ∀ W : World, (Instr.makeSlice 23 (.int .i64 0) (.int .i64 0)).run Try.prog W = .ok (.slice (some ⟨W.heap.size, 0, none⟩) 0 0) (W.alloc (.cells #[] 62)) := fun W => by
    have h := run_make (P := Try.prog) W 23 62 i0 _ sl_ent hi0 hz0 .i64 .i64 0 0 (by omega) (by omega) (by omega) (by omega)
    have e0 : ∀ z, madeCells z 0 = #[] := fun z => Array.eq_empty_of_size_eq_zero (size_madeCells z 0)
    rw [h, show (0 : Int).toNat * i0.size = 0 from by simp, e0]
    rfl
  have HN := Lib.hid hn0
  have HN1 := Lib.hid hn1
  have HM := Lib.hid (show (1024 < n + more) ↔ less < more by omega)
  clear hn0 hn1
  go_enter Try.func7, Try.ntmps7
  go_wp2_with fail
  refine (fixed7_any _).mono ?_
  rintro e w1 ⟨rfl, hb1⟩
  go_wp2_with fail
  refine (lNew_any none 0 0 [] w1 (Ents.nil _ _ _) rfl (by omega)).mono ?_
  rintro e w2 ⟨g, f, rfl, hl2, hb2⟩
  have hl2 := hl2.mono hb1.size
  have hb2 := bthen hb1 hb2
  clear hb1
  go_wp2_with fail
  go_loopw [23] (fun v wr => ∃ (k : Nat) (f : Option Nat), k ≤ n ∧ v = .int .i64 (k : Int) ∧ LogAt wr w.heap.size g f (List.replicate k ⟨1, no⟩) ∧ Below w.heap.size w wr) (fun v _ => n - (intOf v).toNat)
  case atStart => exact ⟨0, f, Nat.zero_le _, rfl, hl2, hb2⟩
  case round =>
    obtain ⟨k, f3, hk, rfl, hl3, hb3⟩ := hrel
    clear hl2 hb2
    by_cases hlt : k < n
    · have hlt' : (k : Int) < (n : Int) := by omega
      go_wp2_with fail
      refine (lAdd_any w.heap.size g f3 _ ⟨1, no⟩ wr hl3 (by have := HN1.out; simp; omega) hb3.size).mono ?_
      rintro e w4 ⟨rfl, hm4⟩
      rw [add_rep k ⟨1, no⟩ (by decide) (by have := HN1.out; omega)] at hm4 ⊢
      have hb4 := hb3.trans (hm4.below hl3 (Nat.le_refl _) hb3.size)
      obtain ⟨f4, hl4, _⟩ := hm4
      simp only at hl4 ⊢
      go_wp2_with fail
      go_roundw
      case rel => exact ⟨k + 1, f4, by omega, by go_num, hl4, hb4⟩
      case measure => simp [intOf]; omega
    · have hlt' : ¬ (k : Int) < (n : Int) := by omega
      have hkn : k = n := by omega
      subst hkn
      go_wp2_with fail
      have hb5 := hb3.alloc hb3.size (.cells #[] 62)
      have hl5 := hl3.on ((Below.refl _ _).alloc (Nat.le_refl _) (.cells #[] 62))
      clear hl3 hb3
      refine (lPut_any w.heap.size g f3 _ k 1 _ 0 0 [] _ hl5 (by have := HN1.out; simp; omega) (Ents.nil _ _ _) rfl (Nat.le_refl _) (by omega) (fun h => absurd h (by omega)) hb5.size).mono ?_
      rintro e w6 ⟨rfl, hm6⟩
      rw [put_none k ⟨1, no⟩ HN.out] at hm6 ⊢
      have hb6 := hb5.trans (hm6.below hl5 (Nat.le_refl _) hb5.size)
      obtain ⟨f6, hl6, _⟩ := hm6
      simp only at hl6
      clear hl5 hb5
      go_wp2_with fail
      have hfr : FreeN 2 (w6.alloc (.cells #[] 62)) w6.heap.size 62 (some ⟨w6.heap.size, 0, none⟩) 0 0 (ecs (List.replicate 0 ⟨2, no⟩)) := FreeN.of_own (World.ownsRow_made w6 _ 0 (Nat.le_refl _) (by decide) rfl)
      have hb7 : Below w6.heap.size w6 (w6.alloc (.cells #[] 62)) := (Below.refl _ _).alloc (Nat.le_refl _) _
      go_loopw [9, 40] (fun r v wr => ∃ (j : Nat) (A : Option Addr) (c : Nat), j ≤ more ∧ r = .slice A j c ∧ v = .int .i64 (j : Int) ∧ FreeN 2 wr w6.heap.size 62 A j c (ecs (List.replicate j ⟨2, no⟩)) ∧ Below w6.heap.size w6 wr) (fun _ v _ => more - (intOf v).toNat)
      case atStart => exact ⟨0, _, 0, Nat.zero_le _, rfl, rfl, hfr, hb7⟩
      case round =>
        obtain ⟨j, A, c, hj, rfl, rfl, hfr2, hb8⟩ := hrel
        clear hfr hb7
        by_cases hlt2 : j < more
        · have hlt2' : (j : Int) < (more : Int) := by omega
          have hx : Sees (wr.alloc (.cells #[.int .i64 2, .string ⟨#[]⟩] 62)) (wr.alloc (.cells #[.int .i64 2, .string ⟨#[]⟩] 62)).heap.size (some ⟨wr.heap.size, 0, none⟩) (1 * 2) (ecs [⟨2, no⟩]) := sees_new wr #[.int .i64 2, .string ⟨#[]⟩] 62
          have hfr3 := hfr2.on ((Below.refl _ _).alloc (Nat.le_refl _) (.cells #[.int .i64 2, .string ⟨#[]⟩] 62))
          have hb9 := hb8.alloc hb8.size (.cells #[.int .i64 2, .string ⟨#[]⟩] 62)
          have hm1 : j + 1 ≤ maxLen := Nat.le_trans (show j + 1 ≤ 1024 by omega) (by decide)
          have hm2 : (j + 1) * 24 ≤ 140737488355328 := by omega
          clear hfr2 hb8
          go_wp2_with (at_builtin; refine wpList_append_freeN (sz := 2) _ rfl (.tmp 42) (.tmp 44) _ rfl w6.heap.size 62 i0 _ 24 sl_ent hi0 hz0 hz1 hz2 rfl (by decide) A j c (ecs (List.replicate j ⟨2, no⟩)) rfl hfr3 _ _ 1 1 (ecs [⟨2, no⟩]) rfl hx (ecs_one _) hm1 hm2 hb9.size ?_; intro A3 c3 w9 ha9)
          have hb10 := ha9.below hfr3 hb9 hb9.size (Nat.le_refl _)
          obtain ⟨hfr4, _, _⟩ := ha9
          rw [← ecs_append, ← List.replicate_succ'] at hfr4
          go_roundw
          case rel => exact ⟨j + 1, A3, c3, by omega, rfl, by go_num, hfr4, hb10⟩
          case measure => simp [intOf]; omega
        · have hlt2' : ¬ (j : Int) < (more : Int) := by omega
          have hjm : j = more := by omega
          subst hjm
          have hl8 := hl6.on hb8
          have hb9 := hb6.trans (hb8.mono hb6.size)
          have hcc : j ≤ c := hfr2.2.1
          have hne : 0 < j → ∀ a, A = some a → a.block ≠ g := fun h0 a ha => by
            obtain ⟨q, off, cur, hA, hq, _⟩ := hfr2.2.2.2 (by omega)
            rw [hA] at ha
            injection ha with ha
            subst ha
            have := hl6.lt
            simp only
            omega
          have hse : Ents wr wr.heap.size A (List.replicate j ⟨2, no⟩) := by unfold Ents; rw [List.length_replicate]; exact hfr2.sees
          clear hl6 hb6 hb8
          go_wp2_with fail
          refine (lPut_any w.heap.size g f6 _ k 1 A j c (List.replicate j ⟨2, no⟩) wr hl8 (by have := HN1.out; simp; omega) hse (by simp) hcc (by omega) hne hb9.size).mono ?_
          rintro e w10 ⟨rfl, hm10⟩
          have hb10 := hb9.trans (hm10.below hl8 (Nat.le_refl _) hb9.size)
          obtain ⟨f10, hl10, _⟩ := hm10
          have hlj : (less : Int) < (j : Int) ↔ less < j := by omega
          clear hl8 hb9 hse hne hcc hfr2
          by_cases hfull : less < j
          · have h1 : (less : Int) < (j : Int) := hlj.2 hfull
            have e10 : putF (List.replicate k ⟨1, no⟩) k 1 (List.replicate j ⟨2, no⟩) = (List.replicate k ⟨1, no⟩, 0, 7) := by rw [put_rep k j HN.out, if_neg (by omega), if_pos (HM.out.2 hfull)]
            rw [e10] at hl10 ⊢
            simp only at hl10
            have HL := Lib.hid (lLast_any w.heap.size g f10 _ w10 hl10 (by have := HN1.out; simp; omega))
            rw [List.length_replicate] at HL
            clear hl10 e10 hlj hfull
            go_wp2_with fail
            refine HL.out.mono ?_
            rintro e w11 ⟨rfl, rfl⟩
            go_wp2_with fail
            go_ret
            exact ⟨rfl, hb10⟩
          · have h1 : ¬ (less : Int) < (j : Int) := fun h => hfull (hlj.1 h)
            obtain ⟨es, r, e10, hlen, hlast⟩ := put_fits k j HN.out (fun h => hfull (HM.out.1 h))
            rw [e10] at hl10 ⊢
            simp only at hl10
            have hkj : k + j ≤ 1024 := by have := HM.out; omega
            have HL := Lib.hid (lLast_any w.heap.size g f10 _ w10 hl10 (by omega))
            rw [hlen] at HL
            have hw1 : IntKind.i64.wrap ((k : Int) + (j : Int)) = (k : Int) + (j : Int) := wr_i64 (by omega) (by omega)
            have hw2 : wrap64 ((k : Int) + (j : Int)) = (k : Int) + (j : Int) := wr_64 (by omega) (by omega)
            have hcast : ((k + j : Nat) : Int) = (k : Int) + (j : Int) := by omega
            rw [hcast] at HL
            by_cases hlt3 : k + j < 1024
            · have h3 : (k : Int) + (j : Int) < 1024 := by omega
              clear hl10 e10 hlj hfull hcast hlen hkj hlt3
              go_wp2_with fail
              refine HL.out.mono ?_
              rintro e w11 ⟨rfl, rfl⟩
              go_wp2_with fail
              go_ret
              exact ⟨rfl, hb10⟩
            · have h3 : ¬ (k : Int) + (j : Int) < 1024 := by omega
              have HA := Lib.hid (lAdd_any w.heap.size g f10 es ⟨9, no⟩ w10 hl10 (by omega) hb10.size)
              rw [add_full es (by omega) hlast] at HA
              have HL10 := Lib.hid hl10
              clear hl10 e10 hlj hfull hcast hlen hkj hlt3
              go_wp2_with fail
              refine HL.out.mono ?_
              rintro e w11 ⟨rfl, rfl⟩
              go_wp2_with fail
              refine HA.out.mono ?_
              rintro e w12 ⟨rfl, hm12⟩
              have hb12 := hb10.trans (hm12.below HL10.out (Nat.le_refl _) hb10.size)
              clear hm12
              go_wp2_with fail
              go_ret
              exact ⟨rfl, hb12⟩

set_option maxRecDepth 100000 in
theorem lifted (os : Os) (started : os.Started) (H : Type) (enc : TypeId × Value → H) :
    ReturnsInHanded {} Try.checked os 7 .any (Rows.logFullSpec.pre6 enc Try.prog Try.f7 Rows.logFullRow.domain false) (Rows.logFullSpec.post enc Try.prog Try.f7 false true false false) := by
  refine returnsInHanded_of_change (C := Try.checked) own started (by kernel_rfl) Try.func7
    (ChangeSpec.witness6 (enc := enc) (C := Try.checked) false ⟨#[], #[.int .u8 0, .int .u8 0], []⟩ 8 (by kernel_rfl) (by kernel_rfl) (by kernel_rfl) (by kernel_rfl)) ?_
  intro W base args ds gs before hval0 hW hcnd _
  have hval : ∀ (j : Nat) t v, Try.f7.params[j]? = some t → args[j]? = some v → Value.okWide Try.prog W .any base t v := hval0
  have hW' := hW
  obtain ⟨p, q, hA0, hV, rfl, hfz, hnd⟩ := hW
  have hA : DataW.TrodAll enc Try.prog W 0 (fun _ => true) true Try.f7.params.toList args.toList ds p := hA0
  rw [Try.params7] at hA hval
  obtain ⟨v0, vs0, d0, ds0, p0, q0, hargs, rfl, rfl, h0, r0⟩ := trodAll_cons hA
  obtain ⟨v1, vs1, d1, ds1, p1, q1, rfl, rfl, rfl, h1, r1⟩ := trodAll_cons r0
  obtain ⟨rfl, rfl, rfl⟩ := trodAll_nil r1
  obtain rfl : args = #[v0, v1] := by cases args; simp_all
  obtain ⟨rfl, rfl⟩ := trodVars_none hV
  obtain ⟨a0, rfl, rfl, rfl, w0⟩ := open_int Try.underlying5 (hval 0 5 v0 rfl rfl) h0
  obtain ⟨a1, rfl, rfl, rfl, w1⟩ := open_int Try.underlying5 (hval 1 5 v1 rfl rfl) h1
  obtain ⟨n0, hn0⟩ : ∃ n : Nat, a0 = n := ⟨a0.toNat, by have := bounds_u8 w0; omega⟩
  subst hn0
  obtain ⟨n1, hn1⟩ : ∃ n : Nat, a1 = n := ⟨a1.toNat, by have := bounds_u8 w1; omega⟩
  subst hn1
  have hb0 : n0 < 256 := by have := bounds_u8 w0; omega
  have hb1 : n1 < 256 := by have := bounds_u8 w1; omega
  clear hA0 hval0
  simp only [List.append_nil] at hW'
  refine (walk n0 n1 W hb0 hb1).mono fun e W' ⟨he, bel⟩ => ?_
  subst he
  exact ⟨_, rfl, _, _, _, [], [], [], hW', trodAll_mk1 (shut_bool Try.underlying4 _), (trodAll_cons_mk (shut_int Try.underlying5 w0) (trodAll_cons_mk (shut_int Try.underlying5 w1) trodAll_mk0)), rfl, bel.frame _, fun h => by cases h⟩

theorem over : Rows.logFullRow.holds Try.pinned (OpenSpec.ofChange Rows.logFullSpec) :=
  OpenClaim.holds_of_wide 7 Try.f7 rfl rfl rfl rfl rfl rfl rfl ⟨rfl, rfl, rfl, rfl, rfl⟩ rfl rfl rfl rfl rfl (by kernel_rfl) Try.func7 (by kernel_rfl)
    (of_decide_eq_true (by kernel_rfl)) (by unfold Func.isWrapper; first | (rw [if_pos (by decide +kernel)]; kernel_rfl) | (rw [if_neg (by decide +kernel)]; exact ⟨rfl, rfl⟩))
    (fun os started H enc _ => lifted os started H enc)

theorem proved : Rows.LogFullSaid :=
  over
#print axioms proved
end Go.Proofs.Ytcmeindekbjefaa.logFull
