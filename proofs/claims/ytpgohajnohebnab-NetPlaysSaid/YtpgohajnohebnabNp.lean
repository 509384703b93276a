/- NetPlays: whatever is sent, taken and doubled, each answer, and all that is under way, is what a plain row tells. For every input, without a condition. -/
import Derived.Test.YtpgohajnohebnabRows
import Derived.Test.YtpgohajnohebnabNpM
import Derived.ProofKit
import Derived.Deep.RegionWith
import Derived.Deep.DeepCutAuto
import Derived.Deep.CutBlock
import Derived.OpenShut
namespace Go.Proofs.Ytpgohajnohebnab.netPlays
open Go.ChangeShapes Go.WideShapes Go.ChangeAt Go.RowKit Go.Deep
set_option linter.unusedVariables false

theorem own : ownKnob Try.prog.godebug = none := by kernel_rfl
theorem laidOut : laidOutB Try.prog = true := by kernel_rfl

/-- an act, read out of memory -/
structure ActL where
  kind : Int
  X : Int
  i : Int
/-- a row of acts: each has three cells -/
def ActsL (w : World) (B : Nat) (A : Option Addr) (n : Nat) (f : Nat → ActL) : Prop :=
  (∀ j, j < n → 0 ≤ (f j).kind ∧ (f j).kind ≤ 255) ∧
  (0 < n → ∃ b off, A = some ⟨b, off, none⟩ ∧ b < B ∧ ∀ j, j < n → w.cell? ⟨b, off + j * 3, none⟩ = some (.int .u8 (f j).kind) ∧ w.cell? ⟨b, off + j * 3 + 1, none⟩ = some (.int .i64 (f j).X) ∧ w.cell? ⟨b, off + j * 3 + 2, none⟩ = some (.int .i64 (f j).i))

set_option maxRecDepth 100000 in
set_option maxHeartbeats 6400000 in
theorem walk (A' : Option Addr) (n' c' : Nat) (f : Nat → ActL) (w : World) (ha : ActsL w w.heap.size A' n' f) :
    Calls Try.prog 3 #[.slice A' n' c'] w fun e w' => e = .returned (.bool true) ∧ Below w.heap.size w w' := by
  by_cases hz1 : 200 < n'
  · have hz2 : (200 : Int) < (n' : Int) := by omega
    go_enter Try.func3, Try.ntmps3
    go_wp2_with fail
    refine (fixed9_any _).mono ?_
    rintro e w1 ⟨rfl, hb1⟩
    go_wp2_with fail
    go_ret
    exact ⟨rfl, hb1⟩
  · have hz2 : ¬ (200 : Int) < (n' : Int) := by omega
    have hn200 : n' ≤ 200 := by omega
    have HA := Lib.hid ha
    clear ha hz1
    go_enter Try.func3, Try.ntmps3
    go_wp2_with fail
    refine (fixed9_any _).mono ?_
    rintro e w1 ⟨rfl, hb1⟩
    go_wp2_with fail
    refine (iNew_any w1).mono ?_
    rintro e w2 ⟨g, rfl, hl2, hb2⟩
    have HL2 := Lib.hid (show iNet w2 w.heap.size g none [] from NetAt.mono hl2 hb1.size)
    have HB2 := Lib.hid (bthen hb1 hb2)
    clear hb1 hl2 hb2
    go_wp2_with fail
    go_loopw [4, 21] (fun v iv wr => ∃ (k n : Nat) (l : List Int) (fb : Option Nat) (A : Option Addr) (c : Nat), k ≤ n' ∧ iv = .int .i64 (k : Int) ∧ v = .slice A n c ∧ TwoN w.heap.size g fb A n c l l wr ∧ n ≤ k ∧ Below w.heap.size w wr) (fun _ iv _ => n' - (intOf iv).toNat)
    case atStart => exact ⟨0, 0, [], none, none, 0, Nat.zero_le _, rfl, rfl, ⟨HL2.out, rfl, FreeN.nil _ _ _ _, fun q hq => by simp [foot] at hq⟩, Nat.zero_le _, HB2.out⟩
    case round =>
      obtain ⟨k, n, l, fb, A, c, hk, rfl, rfl, htwo, hnk, hbel⟩ := hrel
      clear HL2 HB2
      by_cases hlt : k < n'
      · obtain ⟨hk0, hk255⟩ := HA.out.1 k hlt
        obtain ⟨b, off, rfl, hbw, hcells⟩ := HA.out.2 (by omega)
        obtain ⟨c0', c1', c2'⟩ := hcells k hlt
        have c0 := (hbel.cell (p := ⟨b, off + k * 3, none⟩) hbw).trans c0'
        have c1 := (hbel.cell (p := ⟨b, off + k * 3 + 1, none⟩) hbw).trans c1'
        have c2 := (hbel.cell (p := ⟨b, off + k * 3 + 2, none⟩) hbw).trans c2'
        have hlt' : (k : Int) < (n' : Int) := by omega
        clear hcells c0' c1' c2'
        generalize (f k).kind = kd at *
        generalize (f k).X = X at *
        generalize (f k).i = ai at *
        have HK := Lib.hid (show k < n' ∧ n' ≤ 200 ∧ n ≤ k from ⟨hlt, hn200, hnk⟩)
        have HTW := Lib.hid htwo
        have HBEL := Lib.hid hbel
        clear hlt hnk hk htwo hbel hbw hz2 hn200
        go_upto_region 10 with (fail)
        have hA := Blk.new wr 28 #[.int .u8 kd, .int .i64 X, .int .i64 ai]
        have hbA := (Below.refl wr.heap.size wr).alloc (Nat.le_refl _) (.cells #[.int .u8 kd, .int .i64 X, .int .i64 ai] 28)
        have HB1 := Lib.hid (bthen HBEL.out hbA)
        have HT1 := Lib.hid (HTW.out.on hbA)
        have HG1 := Lib.hid hA
        clear c0 c1 c2 hbA hA HBEL HTW
        generalize wr.alloc (.cells #[.int .u8 kd, .int .i64 X, .int .i64 ai] 28) = W1 at *
        generalize wr.heap.size = G at *
        obtain ⟨c0, c1, c2⟩ := act_cells HG1.out
        obtain ⟨inb, hinb⟩ : ∃ inb : Bool, (decide (0 ≤ ai) && decide (ai < (n : Int))) = inb := ⟨_, rfl⟩
        have HIN := Lib.hid hinb
        clear hinb
        go_cut [7] (fun v wx => v = .bool inb ∧ wx = W1)
        case first =>
          by_cases h0 : 0 ≤ ai
          · by_cases h1 : ai < (n : Int)
            · have hv0 : inb = true := by rw [← HIN.out, decide_eq_true h0, decide_eq_true h1]; rfl
              subst hv0
              go_wp2_with fail
              go_meet
              exact ⟨rfl, rfl⟩
            · have hv0 : inb = false := by rw [← HIN.out, decide_eq_true h0, decide_eq_false h1]; rfl
              subst hv0
              go_wp2_with fail
              go_meet
              exact ⟨rfl, rfl⟩
          · have hv0 : inb = false := by rw [← HIN.out, decide_eq_false h0]; rfl
            subst hv0
            go_wp2_with fail
            go_meet
            exact ⟨rfl, rfl⟩
        case rest =>
          obtain ⟨rfl, rfl⟩ := hcut
          have hin : (inb = true ∧ 0 ≤ ai ∧ ai < (n : Int)) ∨ (inb = false ∧ ¬ (0 ≤ ai ∧ ai < (n : Int))) := by
            have h9 := HIN.out
            cases inb
            · right
              refine ⟨rfl, fun h8 => ?_⟩
              rw [decide_eq_true h8.1, decide_eq_true h8.2] at h9
              cases h9
            · left
              rw [Bool.and_eq_true, decide_eq_true_iff, decide_eq_true_iff] at h9
              exact ⟨rfl, h9⟩
          rcases hin with ⟨rfl, hin⟩ | ⟨rfl, hout⟩
          · as_aux_lemma =>
            obtain ⟨i, hai⟩ : ∃ i : Nat, ai = i := ⟨ai.toNat, by omega⟩
            subst hai
            have hi : i < n := by omega
            have hi' : (i : Int) < (n : Int) := by omega
            rcases (show kd % 4 = 0 ∨ kd % 4 = 1 ∨ kd % 4 = 2 ∨ kd % 4 = 3 by omega) with hq | hq | hq | hq
            · as_aux_lemma =>
              have q0 : (kd % 4 == 0) = true := by simp [hq]
              clear hq
              have hx0 : True := trivial
              have HS := Lib.hid (by have h9 := iSend_any _ g fb l X wc HT1.out.net HB1.out.size; rw [sent_ok l X (by have h8 : l.length = n := HT1.out.len; have := HK.out; omega)] at h9; exact h9)
              go_wp2_with fail
              refine HS.out.mono ?_
              rintro e w3 ⟨rfl, hm⟩
              clear HS
              have HG3 := Lib.hid (HT1.out.keeps hm HG1.out (by decide) (by decide))
              have HB3 := Lib.hid (HB1.out.trans (HT1.out.below hm HB1.out.size))
              obtain ⟨f3, ht3⟩ := HT1.out.moves hm
              have HT3 := Lib.hid ht3
              clear hm ht3 c0 c1 c2 HG1 HB1 HT1
              obtain ⟨c0, c1, c2⟩ := act_cells HG3.out
              obtain ⟨i0, hi0, hz0, hz1, hz2⟩ := info_parts i_row
              have hx4 : Sees (w3.alloc (.cells #[.int .i64 X] 3)) (w3.alloc (.cells #[.int .i64 X] 3)).heap.size (some ⟨w3.heap.size, 0, none⟩) (1 * 1) (ics [X]) := sees_new w3 #[.int .i64 X] 3
              have hb4 := (Below.refl w3.heap.size w3).alloc (Nat.le_refl _) (.cells #[.int .i64 X] 3)
              have HX4 := Lib.hid hx4
              have HT4 := Lib.hid (HT3.out.on hb4)
              have HB4 := Lib.hid (bthen HB3.out hb4)
              have hm1 : n + 1 ≤ maxLen := Nat.le_trans (show n + 1 ≤ 1024 by have := HK.out; omega) (by decide)
              have hm2 : (n + 1) * 8 ≤ 140737488355328 := by clear hm1; have := HK.out; omega
              clear hx4 hb4 HT3 HB3
              go_wp2_with (at_builtin; go_loud (
                refine wpList_append_freeN (sz := 1) _ rfl (.tmp 47) (.tmp 50) _ rfl w.heap.size 3 i0 _ 8 sl_i hi0 hz0 hz1 hz2 rfl (by decide) A n c (ics l) rfl HT4.out.row _ _ 1 1 (ics [X]) rfl HX4.out (ics_one _) hm1 hm2 HB4.out.size ?_
                intro AQ cq wq ha5
                have HTQ := Lib.hid (HT4.out.grows (r2 := [X]) rfl ha5)
                have HB := Lib.hid (HB4.out.trans (ha5.below HT4.out.row (Below.refl w.heap.size _) HB4.out.size (Nat.le_refl _)))
                clear ha5))
              clear c0 c1 c2 hm1 hm2 hx0 HT4 HB4 HX4 HG3
              obtain ⟨L, fq, HT⟩ : ∃ L fq, Hid (TwoN w.heap.size g fq AQ (n + 1) cq L L wq) := ⟨_, _, HTQ⟩
              have HN2 := Lib.hid (show n + 1 ≤ k + 1 by have := HK.out; omega)
              clear HTQ
              generalize n + 1 = n2 at *
              have h9 := iAll_any _ g fq L wq HT.out.net (by have h8 : L.length = n2 := HT.out.len; have := HN2.out; have := HK.out; omega)
              rw [show L.length = n2 from HT.out.len] at h9
              have HALL := Lib.hid h9
              clear h9
              go_wp2_with fail
              refine HALL.out.mono ?_
              rintro e wa ⟨AA, ca, rfl, hfa, hba⟩
              have HTA := Lib.hid (HT.out.on hba)
              have HBA := Lib.hid (bthen HB.out hba)
              have HFA := Lib.hid hfa
              have HLN := Lib.hid (show L.length = n2 from HT.out.len)
              have h9 := iLen_any _ g fq L wa HTA.out.net
              rw [HLN.out] at h9
              have HLEN := Lib.hid h9
              have hn201 : (n2 : Int) ≤ 201 := by have := HN2.out; have := HK.out; omega
              clear h9 hfa hba HALL HT HB
              go_wp2_with fail
              refine HLEN.out.mono ?_
              rintro e wb ⟨rfl, rfl⟩
              clear HLEN
              go_wp2_with fail
              go_loopw [126] (fun jv wr2 => ∃ j : Nat, j ≤ n2 ∧ jv = .int .i64 (j : Int) ∧ Below wb.heap.size wb wr2) (fun jv _ => n2 - (intOf jv).toNat)
              case atStart => exact ⟨0, Nat.zero_le _, rfl, Below.refl _ _⟩
              case round =>
                obtain ⟨j, hj, rfl, hbj⟩ := hrel
                by_cases hjl : j < n2
                · obtain ⟨b5, off5, hA5, d5⟩ := i_at (HFA.out.on hbj) HLN.out j (by have := HLN.out; omega)
                  obtain ⟨b6, off6, hA6, d6⟩ := i_at (HTA.out.row.on hbj) HLN.out j (by have := HLN.out; omega)
                  subst hA5
                  subst hA6
                  obtain ⟨y, hy⟩ : ∃ y, L[j]'(by have := HLN.out; omega) = y := ⟨_, rfl⟩
                  rw [hy] at d5 d6
                  have hjl' : (j : Int) < (n2 : Int) := by omega
                  have hyy : (y != y) = false := by simp
                  have HJ := Lib.hid hjl
                  have HBJ := Lib.hid hbj
                  clear hy hjl hj hbj
                  go_wp2_with fail
                  go_big_quiet (fail)
                  go_wp2_with fail
                  go_roundw
                  case rel => exact ⟨j + 1, HJ.out, by go_num, by first | exact below_drewN HBJ.out _ | exact HBJ.out.drew | exact HBJ.out⟩
                  case measure => have := HJ.out; simp [intOf]; omega
                · have hjl' : ¬ (j : Int) < (n2 : Int) := by omega
                  obtain rfl : j = n2 := by omega
                  have HTJ := Lib.hid (HTA.out.on hbj)
                  have HBJ := Lib.hid (bthen HBA.out hbj)
                  clear hbj hj hjl
                  go_wp2_with fail
                  go_roundw
                  case rel => exact ⟨k + 1, j, L, fq, AQ, cq, by have := HK.out; omega, by have := HK.out; go_num, rfl, HTJ.out, by have := HN2.out; omega, HBJ.out⟩
                  case measure => have := HK.out; simp [intOf]; omega
            · as_aux_lemma =>
              have q0 : (kd % 4 == 0) = false := by simp [hq]
              have q1 : (kd % 4 == 1) = true := by simp [hq]
              clear hq
              have hx0 : True := trivial
              have hil : i < l.length := by have h8 : l.length = n := HT1.out.len; omega
              have HS := Lib.hid (iTake_any _ g fb l i wc HT1.out.net hil (by have h8 : l.length = n := HT1.out.len; have := HK.out; omega))
              obtain ⟨v, hv⟩ : ∃ v, l[i] = v := ⟨_, rfl⟩
              rw [hv] at HS
              have hvv : (v != v) = false := by simp
              go_wp2_with fail
              refine HS.out.mono ?_
              rintro e w3 ⟨rfl, hm⟩
              clear HS
              have HG3 := Lib.hid (HT1.out.keeps hm HG1.out (by decide) (by decide))
              have HB3 := Lib.hid (HB1.out.trans (HT1.out.below hm HB1.out.size))
              obtain ⟨f3, ht3⟩ := HT1.out.moves hm
              have HT3 := Lib.hid ht3
              clear hm ht3 c0 c1 c2 HG1 HB1 HT1
              obtain ⟨c0, c1, c2⟩ := act_cells HG3.out
              obtain ⟨b6, off6, hA6, d6⟩ := i_at HT3.out.row HT3.out.len i hil
              rw [hv] at d6
              subst hA6
              obtain ⟨j, hj⟩ : ∃ j, j = i + 1 := ⟨_, rfl⟩
              obtain ⟨hs1, hs2⟩ := row_parts HT3.out.row i j hi (by omega)
              have hw1 : IntKind.i64.wrap ((i : Int) + 1) = (j : Int) := by rw [wrap_near (by omega) (by have := HK.out; omega)]; omega
              have hw2 : (i : Int) + 1 = (j : Int) := by omega
              have hw3 : IntKind.i64.wrap (j : Int) = (j : Int) := by rw [IntKind.wrap_i64]; have := HK.out; omega
              have hjn : (j : Int) ≤ (n : Int) := by omega
              have hjn2 : j ≤ n := by omega
              have hnc := HT3.out.row.2.1
              have hin1 : (i : Int) ≤ (c : Int) := by omega
              have hin2 : i ≤ c := by omega
              have hin3 : (j : Int) ≤ (c : Int) := by omega
              have hin4 : j ≤ c := by omega
              obtain ⟨A4, hA4⟩ : ∃ A4, (if c = j then (some ⟨b6, off6, none⟩ : Option Addr) else some ⟨b6, off6 + j, none⟩) = A4 := ⟨_, rfl⟩
              rw [hA4] at hs2
              obtain ⟨i0, hi0, hz0, hz1, hz2⟩ := info_parts i_row
              have HE0 := Lib.hid (show FreeN 1 (w3.alloc (.cells #[] 3)) w3.heap.size 3 (some ⟨w3.heap.size, 0, none⟩) 0 0 [] from FreeN.of_own (World.ownsRow_made w3 _ 0 (Nat.le_refl _) (by decide) rfl))
              have HBE := Lib.hid ((Below.refl w3.heap.size w3).alloc (Nat.le_refl _) (.cells #[] 3))
              have HS1 := Lib.hid (fun W (hW : Below w3.heap.size w3 W) => Sees.on hs1 hW)
              have HSR := Lib.hid (show Sees (w3.alloc (.cells #[] 3)) (w3.alloc (.cells #[] 3)).heap.size (some ⟨b6, off6, none⟩) (i * 1) (ics (l.take i)) from HS1.out _ HBE.out)
              have HS2 := Lib.hid (fun W (hW : Below w3.heap.size w3 W) => Sees.on hs2 hW)
              have HJ := Lib.hid (show i < n ∧ j = i + 1 from ⟨hi, hj⟩)
              have hm0 : i + (n - j) ≤ 1024 := by have := HK.out; omega
              have hm1 : 0 + i ≤ maxLen := Nat.le_trans (show 0 + i ≤ 1024 by omega) (by decide)
              have hm2 : (0 + i) * 8 ≤ 140737488355328 := by clear hm1; omega
              have hm3 : i + (n - j) ≤ maxLen := Nat.le_trans hm0 (by decide)
              have hm4 : (i + (n - j)) * 8 ≤ 140737488355328 := by clear hm1 hm3; omega
              have cA : ∀ o, (w3.alloc o).cell? ⟨G, 2, none⟩ = some (.int .i64 (i : Int)) := fun o => (act_cells (HG3.out.alloc o)).2.2
              clear hs1 hs2 hj hi hil hv c0 c1 hx0
              go_wp2_with fail
              go_region_law (first
                | (refine step_append_freeN (sz := 1) rfl (.tmp 77) (.tmp 81) 26 rfl w3.heap.size 3 i0 _ 8 sl_i hi0 hz0 hz1 hz2 rfl (by decide) (some ⟨w3.heap.size, 0, none⟩) 0 0 [] (by rfl) (by exact HE0.out) _ (some ⟨b6, off6, none⟩) i c (ics (l.take i)) (by rfl) (by exact HSR.out) (ics_one _) hm1 hm2 (by simp) ?_
                   intro A1 c1 w4 ha1
                   have ha1' : AppendedN 1 (w3.alloc (.cells #[] 3)) w3.heap.size 3 (some ⟨w3.heap.size, 0, none⟩) 0 0 [] i (ics (l.take i)) A1 c1 w4 := ha1.same rfl rfl rfl rfl
                   have HB5 := Lib.hid (show Below w3.heap.size w3 w4 from ha1'.below HE0.out HBE.out HBE.out.size (Nat.le_refl _))
                   have g3' := (act_cells (HG3.out.below HB5.out HG3.out.lt)).2.2
                   have hf4 := ha1'.1
                   rw [Nat.zero_add, List.nil_append] at hf4
                   have HF4 := Lib.hid hf4
                   clear hf4
                   rw [Nat.zero_add]
                   have HS4 := Lib.hid (HS2.out w4 HB5.out))
                | (refine step_append_freeN (sz := 1) rfl (.tmp 82) (.tmp 87) 26 rfl w3.heap.size 3 i0 _ 8 sl_i hi0 hz0 hz1 hz2 rfl (by decide) A1 i c1 (ics (l.take i)) (by rfl) (by exact HF4.out) _ A4 (n - j) (c - j) (ics (l.drop j)) (by rfl) (by exact HS4.out) (ics_one _) hm3 hm4 (by exact HB5.out.size) ?_
                   intro AQ cq wq ha2
                   have ha2' : AppendedN 1 w4 w3.heap.size 3 A1 i c1 (ics (l.take i)) (n - j) (ics (l.drop j)) AQ cq wq := ha2.same rfl rfl rfl rfl
                   have HB6 := Lib.hid (show Below w3.heap.size w3 wq from ha2'.below HF4.out HB5.out HB5.out.size (Nat.le_refl _))
                   have HF6 := Lib.hid ha2'.1))
              all_goals
                have HTQ := Lib.hid (HT3.out.other (r2 := l.eraseIdx i) (n' := i + (n - j)) (by rw [List.length_eraseIdx]; have h8 : l.length = n := HT3.out.len; have := HJ.out; rw [if_pos (by omega)]; omega) (by have h9 := HF6.out; rw [← ics_app, HJ.out.2, drop_take_erase, ← HJ.out.2] at h9; exact h9) HB3.out.size HB6.out)
                have HB := Lib.hid (bthen HB3.out HB6.out)
                obtain ⟨L, fq, HT⟩ : ∃ L fq, Hid (TwoN w.heap.size g fq AQ (i + (n - j)) cq L L wq) := ⟨_, _, HTQ⟩
                have HN2 := Lib.hid (show i + (n - j) ≤ k + 1 by have := HK.out; have := HJ.out; omega)
                clear HTQ HF6 HB6 HB3 HT3 HG3 c2 cA HE0 HBE HS1 HSR HS2 hm0 hm1 hm2 hm3 hm4 hw1 hw2 hw3 hjn hjn2 hnc hin1 hin2 hin3 hin4 hA4 d6 hvv
                generalize i + (n - j) = n2 at *
                have h9 := iAll_any _ g fq L wq HT.out.net (by have h8 : L.length = n2 := HT.out.len; have := HN2.out; have := HK.out; omega)
                rw [show L.length = n2 from HT.out.len] at h9
                have HALL := Lib.hid h9
                clear h9
                go_wp2_with fail
                refine HALL.out.mono ?_
                rintro e wa ⟨AA, ca, rfl, hfa, hba⟩
                have HTA := Lib.hid (HT.out.on hba)
                have HBA := Lib.hid (bthen HB.out hba)
                have HFA := Lib.hid hfa
                have HLN := Lib.hid (show L.length = n2 from HT.out.len)
                have h9 := iLen_any _ g fq L wa HTA.out.net
                rw [HLN.out] at h9
                have HLEN := Lib.hid h9
                have hn201 : (n2 : Int) ≤ 201 := by have := HN2.out; have := HK.out; omega
                clear h9 hfa hba HALL HT HB
                go_wp2_with fail
                refine HLEN.out.mono ?_
                rintro e wb ⟨rfl, rfl⟩
                clear HLEN
                go_wp2_with fail
                go_loopw [126] (fun jv wr2 => ∃ j : Nat, j ≤ n2 ∧ jv = .int .i64 (j : Int) ∧ Below wb.heap.size wb wr2) (fun jv _ => n2 - (intOf jv).toNat)
                case atStart => exact ⟨0, Nat.zero_le _, rfl, Below.refl _ _⟩
                case round =>
                  obtain ⟨j, hj, rfl, hbj⟩ := hrel
                  by_cases hjl : j < n2
                  · obtain ⟨b5, off5, hA5, d5⟩ := i_at (HFA.out.on hbj) HLN.out j (by have := HLN.out; omega)
                    obtain ⟨b6, off6, hA6, d6⟩ := i_at (HTA.out.row.on hbj) HLN.out j (by have := HLN.out; omega)
                    subst hA5
                    subst hA6
                    obtain ⟨y, hy⟩ : ∃ y, L[j]'(by have := HLN.out; omega) = y := ⟨_, rfl⟩
                    rw [hy] at d5 d6
                    have hjl' : (j : Int) < (n2 : Int) := by omega
                    have hyy : (y != y) = false := by simp
                    have HJ := Lib.hid hjl
                    have HBJ := Lib.hid hbj
                    clear hy hjl hj hbj
                    go_wp2_with fail
                    go_big_quiet (fail)
                    go_wp2_with fail
                    go_roundw
                    case rel => exact ⟨j + 1, HJ.out, by go_num, by first | exact below_drewN HBJ.out _ | exact HBJ.out.drew | exact HBJ.out⟩
                    case measure => have := HJ.out; simp [intOf]; omega
                  · have hjl' : ¬ (j : Int) < (n2 : Int) := by omega
                    obtain rfl : j = n2 := by omega
                    have HTJ := Lib.hid (HTA.out.on hbj)
                    have HBJ := Lib.hid (bthen HBA.out hbj)
                    clear hbj hj hjl
                    go_wp2_with fail
                    go_roundw
                    case rel => exact ⟨k + 1, j, L, fq, AQ, cq, by have := HK.out; omega, by have := HK.out; go_num, rfl, HTJ.out, by have := HN2.out; omega, HBJ.out⟩
                    case measure => have := HK.out; simp [intOf]; omega
            · as_aux_lemma =>
              have q0 : (kd % 4 == 0) = false := by simp [hq]
              have q1 : (kd % 4 == 1) = false := by simp [hq]
              have q2 : (kd % 4 == 2) = true := by simp [hq]
              clear hq
              have hx0 : True := trivial
              have hil : i < l.length := by have h8 : l.length = n := HT1.out.len; omega
              have HS := Lib.hid (by have h9 := iDouble_any _ g fb l i wc HT1.out.net hil HB1.out.size; rw [sent_ok l l[i] (by have h8 : l.length = n := HT1.out.len; have := HK.out; omega)] at h9; exact h9)
              obtain ⟨v, hv⟩ : ∃ v, l[i] = v := ⟨_, rfl⟩
              rw [hv] at HS
              go_wp2_with fail
              refine HS.out.mono ?_
              rintro e w3 ⟨rfl, hm⟩
              clear HS
              have HG3 := Lib.hid (HT1.out.keeps hm HG1.out (by decide) (by decide))
              have HB3 := Lib.hid (HB1.out.trans (HT1.out.below hm HB1.out.size))
              obtain ⟨f3, ht3⟩ := HT1.out.moves hm
              have HT3 := Lib.hid ht3
              clear hm ht3 c0 c1 c2 HG1 HB1 HT1
              obtain ⟨c0, c1, c2⟩ := act_cells HG3.out
              obtain ⟨b6, off6, hA6, d6⟩ := i_at HT3.out.row HT3.out.len i hil
              rw [hv] at d6
              subst hA6
              clear hv hil
              obtain ⟨i0, hi0, hz0, hz1, hz2⟩ := info_parts i_row
              have hx4 : Sees (w3.alloc (.cells #[.int .i64 v] 3)) (w3.alloc (.cells #[.int .i64 v] 3)).heap.size (some ⟨w3.heap.size, 0, none⟩) (1 * 1) (ics [v]) := sees_new w3 #[.int .i64 v] 3
              have hb4 := (Below.refl w3.heap.size w3).alloc (Nat.le_refl _) (.cells #[.int .i64 v] 3)
              have HX4 := Lib.hid hx4
              have HT4 := Lib.hid (HT3.out.on hb4)
              have HB4 := Lib.hid (bthen HB3.out hb4)
              have hm1 : n + 1 ≤ maxLen := Nat.le_trans (show n + 1 ≤ 1024 by have := HK.out; omega) (by decide)
              have hm2 : (n + 1) * 8 ≤ 140737488355328 := by clear hm1; have := HK.out; omega
              clear hx4 hb4 HT3 HB3
              go_wp2_with (at_builtin; go_loud (
                refine wpList_append_freeN (sz := 1) _ rfl (.tmp 98) (.tmp 104) _ rfl w.heap.size 3 i0 _ 8 sl_i hi0 hz0 hz1 hz2 rfl (by decide) (some ⟨b6, off6, none⟩) n c (ics l) rfl HT4.out.row _ _ 1 1 (ics [v]) rfl HX4.out (ics_one _) hm1 hm2 HB4.out.size ?_
                intro AQ cq wq ha5
                have HTQ := Lib.hid (HT4.out.grows (r2 := [v]) rfl ha5)
                have HB := Lib.hid (HB4.out.trans (ha5.below HT4.out.row (Below.refl w.heap.size _) HB4.out.size (Nat.le_refl _)))
                clear ha5))
              clear c0 c1 c2 hm1 hm2 hx0 HT4 HB4 HX4 HG3
              obtain ⟨L, fq, HT⟩ : ∃ L fq, Hid (TwoN w.heap.size g fq AQ (n + 1) cq L L wq) := ⟨_, _, HTQ⟩
              have HN2 := Lib.hid (show n + 1 ≤ k + 1 by have := HK.out; omega)
              clear HTQ
              generalize n + 1 = n2 at *
              clear d6
              have h9 := iAll_any _ g fq L wq HT.out.net (by have h8 : L.length = n2 := HT.out.len; have := HN2.out; have := HK.out; omega)
              rw [show L.length = n2 from HT.out.len] at h9
              have HALL := Lib.hid h9
              clear h9
              go_wp2_with fail
              refine HALL.out.mono ?_
              rintro e wa ⟨AA, ca, rfl, hfa, hba⟩
              have HTA := Lib.hid (HT.out.on hba)
              have HBA := Lib.hid (bthen HB.out hba)
              have HFA := Lib.hid hfa
              have HLN := Lib.hid (show L.length = n2 from HT.out.len)
              have h9 := iLen_any _ g fq L wa HTA.out.net
              rw [HLN.out] at h9
              have HLEN := Lib.hid h9
              have hn201 : (n2 : Int) ≤ 201 := by have := HN2.out; have := HK.out; omega
              clear h9 hfa hba HALL HT HB
              go_wp2_with fail
              refine HLEN.out.mono ?_
              rintro e wb ⟨rfl, rfl⟩
              clear HLEN
              go_wp2_with fail
              go_loopw [126] (fun jv wr2 => ∃ j : Nat, j ≤ n2 ∧ jv = .int .i64 (j : Int) ∧ Below wb.heap.size wb wr2) (fun jv _ => n2 - (intOf jv).toNat)
              case atStart => exact ⟨0, Nat.zero_le _, rfl, Below.refl _ _⟩
              case round =>
                obtain ⟨j, hj, rfl, hbj⟩ := hrel
                by_cases hjl : j < n2
                · obtain ⟨b5, off5, hA5, d5⟩ := i_at (HFA.out.on hbj) HLN.out j (by have := HLN.out; omega)
                  obtain ⟨b6, off6, hA6, d6⟩ := i_at (HTA.out.row.on hbj) HLN.out j (by have := HLN.out; omega)
                  subst hA5
                  subst hA6
                  obtain ⟨y, hy⟩ : ∃ y, L[j]'(by have := HLN.out; omega) = y := ⟨_, rfl⟩
                  rw [hy] at d5 d6
                  have hjl' : (j : Int) < (n2 : Int) := by omega
                  have hyy : (y != y) = false := by simp
                  have HJ := Lib.hid hjl
                  have HBJ := Lib.hid hbj
                  clear hy hjl hj hbj
                  go_wp2_with fail
                  go_big_quiet (fail)
                  go_wp2_with fail
                  go_roundw
                  case rel => exact ⟨j + 1, HJ.out, by go_num, by first | exact below_drewN HBJ.out _ | exact HBJ.out.drew | exact HBJ.out⟩
                  case measure => have := HJ.out; simp [intOf]; omega
                · have hjl' : ¬ (j : Int) < (n2 : Int) := by omega
                  obtain rfl : j = n2 := by omega
                  have HTJ := Lib.hid (HTA.out.on hbj)
                  have HBJ := Lib.hid (bthen HBA.out hbj)
                  clear hbj hj hjl
                  go_wp2_with fail
                  go_roundw
                  case rel => exact ⟨k + 1, j, L, fq, AQ, cq, by have := HK.out; omega, by have := HK.out; go_num, rfl, HTJ.out, by have := HN2.out; omega, HBJ.out⟩
                  case measure => have := HK.out; simp [intOf]; omega
            · as_aux_lemma =>
              have q0 : (kd % 4 == 0) = false := by simp [hq]
              have q1 : (kd % 4 == 1) = false := by simp [hq]
              have q2 : (kd % 4 == 2) = false := by simp [hq]
              have q3 : (kd % 4 == 3) = true := by simp [hq]
              clear hq
              have hx0 : True := trivial
              have HS := Lib.hid (iClear_any _ g fb l wc HT1.out.net)
              go_wp2_with fail
              refine HS.out.mono ?_
              rintro e w3 ⟨rfl, hm⟩
              clear HS
              have HG3 := Lib.hid (HT1.out.keeps hm HG1.out (by decide) (by decide))
              have HB3 := Lib.hid (HB1.out.trans (HT1.out.below hm HB1.out.size))
              obtain ⟨f3, ht3⟩ := HT1.out.moves hm
              have HT3 := Lib.hid ht3
              clear hm ht3 c0 c1 c2 HG1 HB1 HT1
              obtain ⟨c0, c1, c2⟩ := act_cells HG3.out
              clear c0 c1 c2 HG3 hx0
              have HT := Lib.hid HT3.out.empty
              have HB := HB3
              have HN2 := Lib.hid (show 0 ≤ k + 1 from Nat.zero_le _)
              clear HT3 HB3
              have h9 := iAll_any _ g f3 [] w3 HT.out.net (by have h8 : [].length = 0 := HT.out.len; have := HN2.out; have := HK.out; omega)
              rw [show [].length = 0 from HT.out.len] at h9
              have HALL := Lib.hid h9
              clear h9
              go_wp2_with fail
              refine HALL.out.mono ?_
              rintro e wa ⟨AA, ca, rfl, hfa, hba⟩
              have HTA := Lib.hid (HT.out.on hba)
              have HBA := Lib.hid (bthen HB.out hba)
              have HFA := Lib.hid hfa
              have HLN := Lib.hid (show [].length = 0 from HT.out.len)
              have h9 := iLen_any _ g f3 [] wa HTA.out.net
              rw [HLN.out] at h9
              have HLEN := Lib.hid h9
              have hn201 : (0 : Int) ≤ 201 := by have := HN2.out; have := HK.out; omega
              clear h9 hfa hba HALL HT HB
              go_wp2_with fail
              refine HLEN.out.mono ?_
              rintro e wb ⟨rfl, rfl⟩
              clear HLEN
              go_wp2_with fail
              go_loopw [126] (fun jv wr2 => ∃ j : Nat, j ≤ 0 ∧ jv = .int .i64 (j : Int) ∧ Below wb.heap.size wb wr2) (fun jv _ => 0 - (intOf jv).toNat)
              case atStart => exact ⟨0, Nat.zero_le _, rfl, Below.refl _ _⟩
              case round =>
                obtain ⟨j, hj, rfl, hbj⟩ := hrel
                by_cases hjl : j < 0
                · exact absurd hjl (Nat.not_lt_zero _)
                · have hjl' : ¬ (j : Int) < (0 : Int) := by omega
                  obtain rfl : j = 0 := by omega
                  have HTJ := Lib.hid (HTA.out.on hbj)
                  have HBJ := Lib.hid (bthen HBA.out hbj)
                  clear hbj hj hjl
                  go_wp2_with fail
                  go_roundw
                  case rel => exact ⟨k + 1, 0, [], f3, none, 0, by have := HK.out; omega, by have := HK.out; go_num, rfl, HTJ.out, by have := HN2.out; omega, HBJ.out⟩
                  case measure => have := HK.out; simp [intOf]; omega
          · as_aux_lemma =>
            rcases (show kd % 4 = 0 ∨ kd % 4 = 1 ∨ kd % 4 = 2 ∨ kd % 4 = 3 by omega) with hq | hq | hq | hq
            · as_aux_lemma =>
              have q0 : (kd % 4 == 0) = true := by simp [hq]
              clear hq
              have hx0 : True := trivial
              have HS := Lib.hid (by have h9 := iSend_any _ g fb l X wc HT1.out.net HB1.out.size; rw [sent_ok l X (by have h8 : l.length = n := HT1.out.len; have := HK.out; omega)] at h9; exact h9)
              go_wp2_with fail
              refine HS.out.mono ?_
              rintro e w3 ⟨rfl, hm⟩
              clear HS
              have HG3 := Lib.hid (HT1.out.keeps hm HG1.out (by decide) (by decide))
              have HB3 := Lib.hid (HB1.out.trans (HT1.out.below hm HB1.out.size))
              obtain ⟨f3, ht3⟩ := HT1.out.moves hm
              have HT3 := Lib.hid ht3
              clear hm ht3 c0 c1 c2 HG1 HB1 HT1
              obtain ⟨c0, c1, c2⟩ := act_cells HG3.out
              obtain ⟨i0, hi0, hz0, hz1, hz2⟩ := info_parts i_row
              have hx4 : Sees (w3.alloc (.cells #[.int .i64 X] 3)) (w3.alloc (.cells #[.int .i64 X] 3)).heap.size (some ⟨w3.heap.size, 0, none⟩) (1 * 1) (ics [X]) := sees_new w3 #[.int .i64 X] 3
              have hb4 := (Below.refl w3.heap.size w3).alloc (Nat.le_refl _) (.cells #[.int .i64 X] 3)
              have HX4 := Lib.hid hx4
              have HT4 := Lib.hid (HT3.out.on hb4)
              have HB4 := Lib.hid (bthen HB3.out hb4)
              have hm1 : n + 1 ≤ maxLen := Nat.le_trans (show n + 1 ≤ 1024 by have := HK.out; omega) (by decide)
              have hm2 : (n + 1) * 8 ≤ 140737488355328 := by clear hm1; have := HK.out; omega
              clear hx4 hb4 HT3 HB3
              go_wp2_with (at_builtin; go_loud (
                refine wpList_append_freeN (sz := 1) _ rfl (.tmp 47) (.tmp 50) _ rfl w.heap.size 3 i0 _ 8 sl_i hi0 hz0 hz1 hz2 rfl (by decide) A n c (ics l) rfl HT4.out.row _ _ 1 1 (ics [X]) rfl HX4.out (ics_one _) hm1 hm2 HB4.out.size ?_
                intro AQ cq wq ha5
                have HTQ := Lib.hid (HT4.out.grows (r2 := [X]) rfl ha5)
                have HB := Lib.hid (HB4.out.trans (ha5.below HT4.out.row (Below.refl w.heap.size _) HB4.out.size (Nat.le_refl _)))
                clear ha5))
              clear c0 c1 c2 hm1 hm2 hx0 HT4 HB4 HX4 HG3
              obtain ⟨L, fq, HT⟩ : ∃ L fq, Hid (TwoN w.heap.size g fq AQ (n + 1) cq L L wq) := ⟨_, _, HTQ⟩
              have HN2 := Lib.hid (show n + 1 ≤ k + 1 by have := HK.out; omega)
              clear HTQ
              generalize n + 1 = n2 at *
              have h9 := iAll_any _ g fq L wq HT.out.net (by have h8 : L.length = n2 := HT.out.len; have := HN2.out; have := HK.out; omega)
              rw [show L.length = n2 from HT.out.len] at h9
              have HALL := Lib.hid h9
              clear h9
              go_wp2_with fail
              refine HALL.out.mono ?_
              rintro e wa ⟨AA, ca, rfl, hfa, hba⟩
              have HTA := Lib.hid (HT.out.on hba)
              have HBA := Lib.hid (bthen HB.out hba)
              have HFA := Lib.hid hfa
              have HLN := Lib.hid (show L.length = n2 from HT.out.len)
              have h9 := iLen_any _ g fq L wa HTA.out.net
              rw [HLN.out] at h9
              have HLEN := Lib.hid h9
              have hn201 : (n2 : Int) ≤ 201 := by have := HN2.out; have := HK.out; omega
              clear h9 hfa hba HALL HT HB
              go_wp2_with fail
              refine HLEN.out.mono ?_
              rintro e wb ⟨rfl, rfl⟩
              clear HLEN
              go_wp2_with fail
              go_loopw [126] (fun jv wr2 => ∃ j : Nat, j ≤ n2 ∧ jv = .int .i64 (j : Int) ∧ Below wb.heap.size wb wr2) (fun jv _ => n2 - (intOf jv).toNat)
              case atStart => exact ⟨0, Nat.zero_le _, rfl, Below.refl _ _⟩
              case round =>
                obtain ⟨j, hj, rfl, hbj⟩ := hrel
                by_cases hjl : j < n2
                · obtain ⟨b5, off5, hA5, d5⟩ := i_at (HFA.out.on hbj) HLN.out j (by have := HLN.out; omega)
                  obtain ⟨b6, off6, hA6, d6⟩ := i_at (HTA.out.row.on hbj) HLN.out j (by have := HLN.out; omega)
                  subst hA5
                  subst hA6
                  obtain ⟨y, hy⟩ : ∃ y, L[j]'(by have := HLN.out; omega) = y := ⟨_, rfl⟩
                  rw [hy] at d5 d6
                  have hjl' : (j : Int) < (n2 : Int) := by omega
                  have hyy : (y != y) = false := by simp
                  have HJ := Lib.hid hjl
                  have HBJ := Lib.hid hbj
                  clear hy hjl hj hbj
                  go_wp2_with fail
                  go_big_quiet (fail)
                  go_wp2_with fail
                  go_roundw
                  case rel => exact ⟨j + 1, HJ.out, by go_num, by first | exact below_drewN HBJ.out _ | exact HBJ.out.drew | exact HBJ.out⟩
                  case measure => have := HJ.out; simp [intOf]; omega
                · have hjl' : ¬ (j : Int) < (n2 : Int) := by omega
                  obtain rfl : j = n2 := by omega
                  have HTJ := Lib.hid (HTA.out.on hbj)
                  have HBJ := Lib.hid (bthen HBA.out hbj)
                  clear hbj hj hjl
                  go_wp2_with fail
                  go_roundw
                  case rel => exact ⟨k + 1, j, L, fq, AQ, cq, by have := HK.out; omega, by have := HK.out; go_num, rfl, HTJ.out, by have := HN2.out; omega, HBJ.out⟩
                  case measure => have := HK.out; simp [intOf]; omega
            · as_aux_lemma =>
              have q0 : (kd % 4 == 0) = false := by simp [hq]
              have q1 : (kd % 4 == 1) = true := by simp [hq]
              clear hq
              have hx0 : True := trivial
              have HS := Lib.hid (iTake_none _ g fb l ai wc HT1.out.net (by have h8 : l.length = n := HT1.out.len; rw [h8]; exact hout))
              go_wp2_with fail
              refine HS.out.mono ?_
              rintro e w3 ⟨rfl, rfl⟩
              clear HS
              clear c0 c1 c2 HG1 hx0
              have HT := HT1
              have HB := HB1
              have HN2 := Lib.hid (show n ≤ k + 1 by have := HK.out; omega)
              clear HT1 HB1
              have h9 := iAll_any _ g fb l w3 HT.out.net (by have h8 : l.length = n := HT.out.len; have := HN2.out; have := HK.out; omega)
              rw [show l.length = n from HT.out.len] at h9
              have HALL := Lib.hid h9
              clear h9
              go_wp2_with fail
              refine HALL.out.mono ?_
              rintro e wa ⟨AA, ca, rfl, hfa, hba⟩
              have HTA := Lib.hid (HT.out.on hba)
              have HBA := Lib.hid (bthen HB.out hba)
              have HFA := Lib.hid hfa
              have HLN := Lib.hid (show l.length = n from HT.out.len)
              have h9 := iLen_any _ g fb l wa HTA.out.net
              rw [HLN.out] at h9
              have HLEN := Lib.hid h9
              have hn201 : (n : Int) ≤ 201 := by have := HN2.out; have := HK.out; omega
              clear h9 hfa hba HALL HT HB
              go_wp2_with fail
              refine HLEN.out.mono ?_
              rintro e wb ⟨rfl, rfl⟩
              clear HLEN
              go_wp2_with fail
              go_loopw [126] (fun jv wr2 => ∃ j : Nat, j ≤ n ∧ jv = .int .i64 (j : Int) ∧ Below wb.heap.size wb wr2) (fun jv _ => n - (intOf jv).toNat)
              case atStart => exact ⟨0, Nat.zero_le _, rfl, Below.refl _ _⟩
              case round =>
                obtain ⟨j, hj, rfl, hbj⟩ := hrel
                by_cases hjl : j < n
                · obtain ⟨b5, off5, hA5, d5⟩ := i_at (HFA.out.on hbj) HLN.out j (by have := HLN.out; omega)
                  obtain ⟨b6, off6, hA6, d6⟩ := i_at (HTA.out.row.on hbj) HLN.out j (by have := HLN.out; omega)
                  subst hA5
                  subst hA6
                  obtain ⟨y, hy⟩ : ∃ y, l[j]'(by have := HLN.out; omega) = y := ⟨_, rfl⟩
                  rw [hy] at d5 d6
                  have hjl' : (j : Int) < (n : Int) := by omega
                  have hyy : (y != y) = false := by simp
                  have HJ := Lib.hid hjl
                  have HBJ := Lib.hid hbj
                  clear hy hjl hj hbj
                  go_wp2_with fail
                  go_big_quiet (fail)
                  go_wp2_with fail
                  go_roundw
                  case rel => exact ⟨j + 1, HJ.out, by go_num, by first | exact below_drewN HBJ.out _ | exact HBJ.out.drew | exact HBJ.out⟩
                  case measure => have := HJ.out; simp [intOf]; omega
                · have hjl' : ¬ (j : Int) < (n : Int) := by omega
                  obtain rfl : j = n := by omega
                  have HTJ := Lib.hid (HTA.out.on hbj)
                  have HBJ := Lib.hid (bthen HBA.out hbj)
                  clear hbj hj hjl
                  go_wp2_with fail
                  go_roundw
                  case rel => exact ⟨k + 1, j, l, fb, A, c, by have := HK.out; omega, by have := HK.out; go_num, rfl, HTJ.out, by have := HN2.out; omega, HBJ.out⟩
                  case measure => have := HK.out; simp [intOf]; omega
            · as_aux_lemma =>
              have q0 : (kd % 4 == 0) = false := by simp [hq]
              have q1 : (kd % 4 == 1) = false := by simp [hq]
              have q2 : (kd % 4 == 2) = true := by simp [hq]
              clear hq
              have hx0 : True := trivial
              have HS := Lib.hid (iDouble_none _ g fb l ai wc HT1.out.net (by have h8 : l.length = n := HT1.out.len; rw [h8]; exact hout))
              go_wp2_with fail
              refine HS.out.mono ?_
              rintro e w3 ⟨rfl, rfl⟩
              clear HS
              clear c0 c1 c2 HG1 hx0
              have HT := HT1
              have HB := HB1
              have HN2 := Lib.hid (show n ≤ k + 1 by have := HK.out; omega)
              clear HT1 HB1
              have h9 := iAll_any _ g fb l w3 HT.out.net (by have h8 : l.length = n := HT.out.len; have := HN2.out; have := HK.out; omega)
              rw [show l.length = n from HT.out.len] at h9
              have HALL := Lib.hid h9
              clear h9
              go_wp2_with fail
              refine HALL.out.mono ?_
              rintro e wa ⟨AA, ca, rfl, hfa, hba⟩
              have HTA := Lib.hid (HT.out.on hba)
              have HBA := Lib.hid (bthen HB.out hba)
              have HFA := Lib.hid hfa
              have HLN := Lib.hid (show l.length = n from HT.out.len)
              have h9 := iLen_any _ g fb l wa HTA.out.net
              rw [HLN.out] at h9
              have HLEN := Lib.hid h9
              have hn201 : (n : Int) ≤ 201 := by have := HN2.out; have := HK.out; omega
              clear h9 hfa hba HALL HT HB
              go_wp2_with fail
              refine HLEN.out.mono ?_
              rintro e wb ⟨rfl, rfl⟩
              clear HLEN
              go_wp2_with fail
              go_loopw [126] (fun jv wr2 => ∃ j : Nat, j ≤ n ∧ jv = .int .i64 (j : Int) ∧ Below wb.heap.size wb wr2) (fun jv _ => n - (intOf jv).toNat)
              case atStart => exact ⟨0, Nat.zero_le _, rfl, Below.refl _ _⟩
              case round =>
                obtain ⟨j, hj, rfl, hbj⟩ := hrel
                by_cases hjl : j < n
                · obtain ⟨b5, off5, hA5, d5⟩ := i_at (HFA.out.on hbj) HLN.out j (by have := HLN.out; omega)
                  obtain ⟨b6, off6, hA6, d6⟩ := i_at (HTA.out.row.on hbj) HLN.out j (by have := HLN.out; omega)
                  subst hA5
                  subst hA6
                  obtain ⟨y, hy⟩ : ∃ y, l[j]'(by have := HLN.out; omega) = y := ⟨_, rfl⟩
                  rw [hy] at d5 d6
                  have hjl' : (j : Int) < (n : Int) := by omega
                  have hyy : (y != y) = false := by simp
                  have HJ := Lib.hid hjl
                  have HBJ := Lib.hid hbj
                  clear hy hjl hj hbj
                  go_wp2_with fail
                  go_big_quiet (fail)
                  go_wp2_with fail
                  go_roundw
                  case rel => exact ⟨j + 1, HJ.out, by go_num, by first | exact below_drewN HBJ.out _ | exact HBJ.out.drew | exact HBJ.out⟩
                  case measure => have := HJ.out; simp [intOf]; omega
                · have hjl' : ¬ (j : Int) < (n : Int) := by omega
                  obtain rfl : j = n := by omega
                  have HTJ := Lib.hid (HTA.out.on hbj)
                  have HBJ := Lib.hid (bthen HBA.out hbj)
                  clear hbj hj hjl
                  go_wp2_with fail
                  go_roundw
                  case rel => exact ⟨k + 1, j, l, fb, A, c, by have := HK.out; omega, by have := HK.out; go_num, rfl, HTJ.out, by have := HN2.out; omega, HBJ.out⟩
                  case measure => have := HK.out; simp [intOf]; omega
            · as_aux_lemma =>
              have q0 : (kd % 4 == 0) = false := by simp [hq]
              have q1 : (kd % 4 == 1) = false := by simp [hq]
              have q2 : (kd % 4 == 2) = false := by simp [hq]
              have q3 : (kd % 4 == 3) = true := by simp [hq]
              clear hq
              have hx0 : True := trivial
              have HS := Lib.hid (iClear_any _ g fb l wc HT1.out.net)
              go_wp2_with fail
              refine HS.out.mono ?_
              rintro e w3 ⟨rfl, hm⟩
              clear HS
              have HG3 := Lib.hid (HT1.out.keeps hm HG1.out (by decide) (by decide))
              have HB3 := Lib.hid (HB1.out.trans (HT1.out.below hm HB1.out.size))
              obtain ⟨f3, ht3⟩ := HT1.out.moves hm
              have HT3 := Lib.hid ht3
              clear hm ht3 c0 c1 c2 HG1 HB1 HT1
              obtain ⟨c0, c1, c2⟩ := act_cells HG3.out
              clear c0 c1 c2 HG3 hx0
              have HT := Lib.hid HT3.out.empty
              have HB := HB3
              have HN2 := Lib.hid (show 0 ≤ k + 1 from Nat.zero_le _)
              clear HT3 HB3
              have h9 := iAll_any _ g f3 [] w3 HT.out.net (by have h8 : [].length = 0 := HT.out.len; have := HN2.out; have := HK.out; omega)
              rw [show [].length = 0 from HT.out.len] at h9
              have HALL := Lib.hid h9
              clear h9
              go_wp2_with fail
              refine HALL.out.mono ?_
              rintro e wa ⟨AA, ca, rfl, hfa, hba⟩
              have HTA := Lib.hid (HT.out.on hba)
              have HBA := Lib.hid (bthen HB.out hba)
              have HFA := Lib.hid hfa
              have HLN := Lib.hid (show [].length = 0 from HT.out.len)
              have h9 := iLen_any _ g f3 [] wa HTA.out.net
              rw [HLN.out] at h9
              have HLEN := Lib.hid h9
              have hn201 : (0 : Int) ≤ 201 := by have := HN2.out; have := HK.out; omega
              clear h9 hfa hba HALL HT HB
              go_wp2_with fail
              refine HLEN.out.mono ?_
              rintro e wb ⟨rfl, rfl⟩
              clear HLEN
              go_wp2_with fail
              go_loopw [126] (fun jv wr2 => ∃ j : Nat, j ≤ 0 ∧ jv = .int .i64 (j : Int) ∧ Below wb.heap.size wb wr2) (fun jv _ => 0 - (intOf jv).toNat)
              case atStart => exact ⟨0, Nat.zero_le _, rfl, Below.refl _ _⟩
              case round =>
                obtain ⟨j, hj, rfl, hbj⟩ := hrel
                by_cases hjl : j < 0
                · exact absurd hjl (Nat.not_lt_zero _)
                · have hjl' : ¬ (j : Int) < (0 : Int) := by omega
                  obtain rfl : j = 0 := by omega
                  have HTJ := Lib.hid (HTA.out.on hbj)
                  have HBJ := Lib.hid (bthen HBA.out hbj)
                  clear hbj hj hjl
                  go_wp2_with fail
                  go_roundw
                  case rel => exact ⟨k + 1, 0, [], f3, none, 0, by have := HK.out; omega, by have := HK.out; go_num, rfl, HTJ.out, by have := HN2.out; omega, HBJ.out⟩
                  case measure => have := HK.out; simp [intOf]; omega
      · have hlt' : ¬ (k : Int) < (n' : Int) := by omega
        have HB := Lib.hid hbel
        clear htwo hbel hnk hlt hk
        go_wp2_with fail
        go_ret
        exact ⟨rfl, HB.out⟩
end Go.Proofs.Ytpgohajnohebnab.netPlays
