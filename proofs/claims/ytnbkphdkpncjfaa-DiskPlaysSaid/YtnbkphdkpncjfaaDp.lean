/- DiskPlays: whatever is written, synced, lost, cut and spoilt, each answer, all bytes, and how many are synced, is what two plain texts tell. For every input, without a condition. -/
import Derived.Test.YtnbkphdkpncjfaaRows
import Derived.Test.YtnbkphdkpncjfaaFix4
import Derived.ProofKit
import Derived.Deep.RegionWith
import Derived.Deep.DeepCutAuto
import Derived.Deep.CutBlock
import Derived.Deep.Slices
import Derived.OpenShut
import Derived.ShutString
namespace Go.Proofs.Ytnbkphdkpncjfaa.diskPlays
open Go.ChangeShapes Go.WideShapes Go.ChangeAt Go.RowKit Go.Deep
set_option linter.unusedVariables false

theorem own : ownKnob Try.prog.godebug = none := by kernel_rfl
theorem laidOut : laidOutB Try.prog = true := by kernel_rfl

/-- an act, read out of memory -/
structure ActV where
  kind : Int
  A : Option Addr
  n : Nat
  c : Nat
  l : List UInt8
  keep : Int
  at_ : Int
  by_ : UInt8
/-- a row of acts: each has five cells -/
def Acts (w : World) (B : Nat) (A : Option Addr) (n : Nat) (f : Nat → ActV) : Prop :=
  (∀ j, j < n → 0 ≤ (f j).kind ∧ (f j).kind ≤ 255 ∧ Sees w B (f j).A (f j).n (cbs (f j).l) ∧ (f j).n ≤ maxLen) ∧
  (0 < n → ∃ b off, A = some ⟨b, off, none⟩ ∧ b < B ∧ ∀ j, j < n → w.cell? ⟨b, off + j * 5, none⟩ = some (.int .u8 (f j).kind) ∧ w.cell? ⟨b, off + j * 5 + 1, none⟩ = some (.slice (f j).A (f j).n (f j).c) ∧
    w.cell? ⟨b, off + j * 5 + 2, none⟩ = some (.int .i64 (f j).keep) ∧ w.cell? ⟨b, off + j * 5 + 3, none⟩ = some (.int .i64 (f j).at_) ∧ w.cell? ⟨b, off + j * 5 + 4, none⟩ = some (.int .u8 ((f j).by_.toNat : Int)))

/-- a text of these bytes -/
def tok (l : List UInt8) : ByteArray := ⟨l.toArray⟩
theorem tok_size (l : List UInt8) : (tok l).size = l.length := by unfold tok; rw [← text_len]
theorem tok_app (l m : List UInt8) : tok l ++ tok m = tok (l ++ m) := text_app l m
theorem tok_conv (w : World) (B : Nat) (A : Option Addr) (n c : Nat) (l : List UInt8) (h : Sees w B A n (cbs l)) : (convert 23 9 (.slice A n c)).run Try.prog w = .ok (.string (tok l)) w := conv_sees' w B A n c l h
theorem tok_fits (l m : List UInt8) (h : l.length + m.length ≤ 1000000) : ¬ 9223372036854775807 < (tok l).size + (tok m).size := by rw [tok_size, tok_size]; omega
def text (l : List UInt8) : Value := .string (tok l)

theorem tok_cut (l : List UInt8) (j : Nat) : (tok l).extract 0 j = tok (l.take j) := by
  unfold tok
  apply ByteArray.ext
  rw [ByteArray.data_extract]
  apply Array.ext'
  rw [Array.toList_extract]
  simp [List.extract]
theorem tok_rest (l : List UInt8) (j : Nat) : (tok l).extract j l.length = tok (l.drop j) := by
  unfold tok
  apply ByteArray.ext
  rw [ByteArray.data_extract]
  apply Array.ext'
  rw [Array.toList_extract]
  simp only [List.extract]
  exact List.take_of_length_le (by rw [List.length_drop]; omega)
theorem min_of (z : Int) (n : Nat) : ∃ j : Nat, j ≤ n ∧ min (max z 0) (n : Int) = j ∧ (if (n : Int) < (if z < 0 then 0 else z) then (n : Int) else if z < 0 then 0 else z) = (j : Int) := by
  refine ⟨(min (max z 0) (n : Int)).toNat, by omega, by omega, ?_⟩
  split <;> split <;> omega
theorem turn_app (l m : List UInt8) (i : Nat) (y : UInt8) : turn (l ++ m) (l.length + i) y = l ++ turn m i y := by
  unfold turn
  rw [List.set_append_right _ _ (by omega), show l.length + i - l.length = i from by omega]
  congr 2
  rw [List.getD_eq_getElem?_getD, List.getD_eq_getElem?_getD, List.getElem?_append_right (by omega), show l.length + i - l.length = i from by omega]
theorem crash_app (sy tl : List UInt8) (kp at_ : Int) (y : UInt8) (j : Nat) (h : min (max kp 0) (tl.length : Int) = j) :
    crashF (sy ++ tl) sy.length kp at_ y = sy ++ (if 0 ≤ at_ ∧ at_ < (j : Int) then turn (tl.take j) at_.toNat y else tl.take j) := by
  have e1 : (((sy ++ tl).length : Nat) : Int) - (sy.length : Int) = (tl.length : Int) := by rw [List.length_append]; omega
  have e2 : (sy ++ tl).take (sy.length + j) = sy ++ tl.take j := by rw [List.take_append, List.take_of_length_le (by omega), show sy.length + j - sy.length = j from by omega]
  unfold crashF
  rw [e1, h]
  simp only [Int.toNat_natCast]
  rw [e2]
  split
  · rw [turn_app]
  · rfl

theorem turn_left (l m : List UInt8) (i : Nat) (y : UInt8) (h : i < l.length) : turn (l ++ m) i y = turn l i y ++ m := by
  unfold turn
  rw [List.set_append_left _ _ h]
  congr 2
  rw [List.getD_eq_getElem?_getD, List.getD_eq_getElem?_getD, List.getElem?_append_left h]
/-- a text of which one byte is turned, by its parts -/
theorem tok_turn (t : List UInt8) (a : Nat) (y : UInt8) (h : a < t.length) : ∃ x z : UInt8, (tok t)[a]'(by rw [tok_size]; exact h) = x ∧ z = x ^^^ y ∧ tok (t.take a) ++ tok [z] = tok (t.take a ++ [z]) ∧ tok (t.take a ++ [z]) ++ tok (t.drop (a + 1)) = tok (turn t a y) := by
  refine ⟨t[a], t[a] ^^^ y, rfl, rfl, tok_app _ _, ?_⟩
  rw [tok_app]
  congr 1
  have hg : t.getD a 0 = t[a] := by rw [List.getD_eq_getElem?_getD, List.getElem?_eq_getElem h]; rfl
  unfold turn
  rw [hg, List.set_eq_take_append_cons_drop, if_pos h]
  simp

set_option maxRecDepth 100000 in
set_option maxHeartbeats 6400000 in
theorem walk (A' : Option Addr) (n' c' : Nat) (f : Nat → ActV) (w : World) (ha : Acts w w.heap.size A' n' f) (hn' : n' ≤ maxLen) :
    Calls Try.prog 12 #[.slice A' n' c'] w fun e w' => e = .returned (.bool true) ∧ Below w.heap.size w w' := by
  have hn9 : n' ≤ 9223372036854775807 := hn'
  by_cases hz1 : 80 < n'
  · have hz2 : (80 : Int) < (n' : Int) := by omega
    go_enter Try.func12, Try.ntmps12
    go_wp2_with fail
    refine (fixed4_any _).mono ?_
    rintro e w1 ⟨rfl, hb1⟩
    go_wp2_with fail
    go_ret
    exact ⟨rfl, hb1⟩
  · have hz2 : ¬ (80 : Int) < (n' : Int) := by omega
    have hn80 : n' ≤ 80 := by omega
    have HA := Lib.hid ha
    clear ha hn9 hn'
    go_enter Try.func12, Try.ntmps12
    go_wp2_with fail
    refine (fixed4_any _).mono ?_
    rintro e w1 ⟨rfl, hb1⟩
    go_wp2_with fail
    refine (dNew_any w1).mono ?_
    rintro e w2 ⟨rfl, hd2, hb2⟩
    have hbw := bthen hb1 hb2
    have hgw := hb1.size
    clear hb1 hb2
    generalize w1.heap.size = g at *
    go_wp2_with fail
    go_loopw [4, 5, 19] (fun st tt i wr => ∃ (k : Nat) (sy tl : List UInt8), k ≤ n' ∧ i = .int .i64 (k : Int) ∧ st = text sy ∧ tt = text tl ∧ Dsk wr g g (sy ++ tl) sy.length ∧ (sy ++ tl).length ≤ 300 * k ∧ Below w.heap.size w wr) (fun _ _ i _ => n' - (intOf i).toNat)
    case atStart => exact ⟨0, [], [], Nat.zero_le _, rfl, rfl, rfl, hd2, by simp, hbw⟩
    case round =>
      obtain ⟨k, sy, tl, hk, rfl, rfl, rfl, hd, hlen, hbel⟩ := hrel
      by_cases hlt : k < n'
      · obtain ⟨hk0, hk255, hsB, hnB⟩ := HA.out.1 k hlt
        obtain ⟨b, off, rfl, hbw, hcells⟩ := HA.out.2 (by omega)
        obtain ⟨c0', c1', c2', c3', c4'⟩ := hcells k hlt
        have c0 := (hbel.cell (p := ⟨b, off + k * 5, none⟩) hbw).trans c0'
        have c1 := (hbel.cell (p := ⟨b, off + k * 5 + 1, none⟩) hbw).trans c1'
        have c2 := (hbel.cell (p := ⟨b, off + k * 5 + 2, none⟩) hbw).trans c2'
        have c3 := (hbel.cell (p := ⟨b, off + k * 5 + 3, none⟩) hbw).trans c3'
        have c4 := (hbel.cell (p := ⟨b, off + k * 5 + 4, none⟩) hbw).trans c4'
        have hsr := hsB.below hbel
        clear hcells c0' c1' c2' c3' c4' hsB
        generalize (f k).kind = kd at *
        generalize (f k).A = AB at *
        generalize (f k).n = nB at *
        generalize (f k).c = cB at *
        generalize (f k).l = lB at *
        generalize (f k).keep = kp at *
        generalize (f k).at_ = at_ at *
        generalize (f k).by_ = by_ at *
        go_upto_region 10 with (fail)
        have hA := Blk.new wr 73 #[.int .u8 kd, .slice AB nB cB, .int .i64 kp, .int .i64 at_, .int .u8 (by_.toNat : Int)]
        have hd1 := hd.alloc (.cells #[.int .u8 kd, .slice AB nB cB, .int .i64 kp, .int .i64 at_, .int .u8 (by_.toNat : Int)] 73)
        have hb1 := hbel.alloc hbel.size (.cells #[.int .u8 kd, .slice AB nB cB, .int .i64 kp, .int .i64 at_, .int .u8 (by_.toNat : Int)] 73)
        have hs1 := hsr.alloc hbel.size (.cells #[.int .u8 kd, .slice AB nB cB, .int .i64 kp, .int .i64 at_, .int .u8 (by_.toNat : Int)] 73)
        have hgr : g < wr.heap.size := hd.lt
        have hz1' : wr.heap.size < (wr.alloc (.cells #[.int .u8 kd, .slice AB nB cB, .int .i64 kp, .int .i64 at_, .int .u8 (by_.toNat : Int)] 73)).heap.size := by simp
        clear c0 c1 c2 c3 c4 hd hbel hsr hbw
        generalize wr.alloc (.cells #[.int .u8 kd, .slice AB nB cB, .int .i64 kp, .int .i64 at_, .int .u8 (by_.toNat : Int)] 73) = W1 at *
        generalize wr.heap.size = G at *
        have c0 : W1.cell? ⟨G, 0, none⟩ = some (.int .u8 kd) := by rw [hA.cell]; rfl
        have c1 : W1.cell? ⟨G, 1, none⟩ = some (.slice AB nB cB) := by rw [hA.cell]; rfl
        have c2 : W1.cell? ⟨G, 2, none⟩ = some (.int .i64 kp) := by rw [hA.cell]; rfl
        have c3 : W1.cell? ⟨G, 3, none⟩ = some (.int .i64 at_) := by rw [hA.cell]; rfl
        have c4 : W1.cell? ⟨G, 4, none⟩ = some (.int .u8 (by_.toNat : Int)) := by rw [hA.cell]; rfl
        by_cases hB300 : 300 < nB
        · have hB3 : (300 : Int) < (nB : Int) := by omega
          go_wp2_with fail
          go_ret
          exact ⟨rfl, hb1⟩
        · have hB3 : ¬ (300 : Int) < (nB : Int) := by omega
          have hlB : lB.length = nB := by have := hs1.1; simpa using this
          have HZ := Lib.hid hz1'
          have HGR := Lib.hid hgr
          have HLB := Lib.hid hlB
          have HLN := Lib.hid hlen
          clear hz1' hgr hlB hlen hnB HA
          go_upto_block 2 with (fail)
          go_cut [4, 5, 8, 9] (fun st tt wa gt wx => ∃ (sy2 tl2 : List UInt8) (e : Nat), st = text sy2 ∧ tt = text tl2 ∧ wa = .int .i64 (e : Int) ∧ gt = .int .i64 (e : Int) ∧ Dsk wx g g (sy2 ++ tl2) sy2.length ∧ (sy2 ++ tl2).length ≤ 300 * (k + 1) ∧ Below w.heap.size w wx)
          case first => as_aux_lemma =>
            unfold text
            have hl300 := HLN.out
            have hlB := HLB.out
            rw [List.length_append] at hl300
            rcases (show kd % 5 = 0 ∨ kd % 5 = 1 ∨ kd % 5 = 2 ∨ kd % 5 = 3 ∨ kd % 5 = 4 by omega) with hm | hm | hm | hm | hm
            · as_aux_lemma =>
              have q0 : (kd % 5 == 0) = true := by simp [hm]
              have hcv := tok_conv W1 _ AB nB cB lB hs1
              have hap := tok_app tl lB
              have hfit := tok_fits tl lB (by omega)
              have hwr : writeF (sy ++ tl) lB = (sy ++ (tl ++ lB), 0) := by unfold writeF; rw [if_neg (by rw [List.length_append]; omega), List.append_assoc]
              have HW := Lib.hid (dWrite_any g g sy.length (sy ++ tl) AB nB cB lB W1 hd1 (hs1.more (by have := hb1.size; omega)) (by omega) (by have := hd1.lt; omega) (by rw [List.length_append]; omega))
              have HWR := Lib.hid hwr
              have HM := Lib.hid hm
              clear hwr hl300 hlB hm
              go_wp2_with (go_at_call 53; refine HW.out.mono ?_; rintro e w3 ⟨rfl, hd3, hb3⟩)
              rw [HWR.out] at hd3 ⊢
              go_meet
              exact ⟨sy, tl ++ lB, 0, rfl, rfl, rfl, rfl, hd3, by have h1 := HLN.out; have h2 := HLB.out; simp only [List.length_append] at h1 ⊢; omega, hb1.trans (hb3.mono hgw)⟩
            · as_aux_lemma =>
              have q0 : (kd % 5 == 0) = false := by simp [hm]
              have q1 : (kd % 5 == 1) = true := by simp [hm]
              have hap := tok_app sy tl
              have hfit := tok_fits sy tl (by omega)
              have HW := Lib.hid (dSync_any g g sy.length (sy ++ tl) W1 hd1)
              clear hl300 hlB hm
              go_wp2_with (go_at_call 54; refine HW.out.mono ?_; rintro e w3 ⟨rfl, hd3, hb3⟩)
              go_meet
              exact ⟨sy ++ tl, [], 0, rfl, rfl, rfl, rfl, by rw [List.append_nil]; exact hd3, by have h1 := HLN.out; simp only [List.append_nil]; omega, hb1.trans (hb3.mono hgw)⟩
            · as_aux_lemma =>
              have q0 : (kd % 5 == 0) = false := by simp [hm]
              have q1 : (kd % 5 == 1) = false := by simp [hm]
              have q2 : (kd % 5 == 2) = true := by simp [hm]
              obtain ⟨j, hj, hmin, hif⟩ := min_of kp tl.length
              have hcut1 := tok_cut tl j
              have z1 := tok_size tl
              have z2 := tok_size (tl.take j)
              have hjl : (tl.take j).length = j := by rw [List.length_take]; omega
              rw [hjl] at z2
              have hl20 : (sy ++ tl).length ≤ 1048576 := by rw [List.length_append]; omega
              have HW := Lib.hid (fun W h => dCrash_any g g sy.length (sy ++ tl) kp at_ by_ W h hl20)
              clear hl20
              have HCR := Lib.hid (crash_app sy tl kp at_ by_ j hmin)
              have HJ := Lib.hid hj
              have HJL := Lib.hid hjl
              have hj1 : (0 : Int) ≤ (j : Int) := by omega
              have hj2 : (j : Int) ≤ (tl.length : Int) := by omega
              have HJB := Lib.hid (show j ≤ 24000 by omega)
              have HJ0 := Lib.hid (show kp < 0 → j = 0 by omega)
              clear hl300 hlB hm hmin hj hjl
              go_upto_region 21 with (fail)
              go_cut [5] (fun t wx => t = text (tl.take j) ∧ wx = W1)
              case first => as_aux_lemma =>
                by_cases hkp : kp < 0
                · rw [if_pos hkp] at hif
                  have hj0 := HJ0.out hkp
                  subst hj0
                  go_wp2_with fail
                  all_goals
                    go_meet
                    exact ⟨rfl, rfl⟩
                · rw [if_neg hkp] at hif
                  go_wp2_with fail
                  all_goals
                    go_meet
                    exact ⟨rfl, rfl⟩
              case rest => as_aux_lemma =>
                obtain ⟨rfl, hwc⟩ := hcut
                have hwc' := hwc.symm
                clear hwc
                subst hwc'
                unfold text
                clear hif hcut1 z1
                generalize tl.take j = t at *
                by_cases hat : 0 ≤ at_ ∧ at_ < (j : Int)
                · as_aux_lemma =>
                  have hCR := HCR.out
                  rw [if_pos hat] at hCR
                  obtain ⟨ha0, ha1⟩ := hat
                  obtain ⟨a, rfl⟩ : ∃ a : Nat, at_ = a := ⟨at_.toNat, by omega⟩
                  simp only [Int.toNat_natCast] at hCR
                  have HCS := Lib.hid hCR
                  have haj : a < j := by omega
                  have hsl1 := tok_cut t a
                  have hsl2 := tok_rest t (a + 1)
                  rw [HJL.out] at hsl2
                  have hw8 : IntKind.i64.wrap ((a : Int) + 1) = (a : Int) + 1 := by rw [IntKind.wrap_i64]; have := HJB.out; omega
                  have hb1' : (0 : Int) ≤ (a : Int) + 1 := by omega
                  have hb2' : (a : Int) + 1 ≤ (j : Int) := by omega
                  have hb3' : ((a : Int) + 1).toNat = a + 1 := by omega
                  have hb4' : a ≤ j := by omega
                  have hb5' : a + 1 ≤ j := by omega
                  clear HCR hCR
                  obtain ⟨x, z, hx, hz, hp1, hp2⟩ := tok_turn t a by_ (by rw [HJL.out]; exact haj)
                  have hxy := xor_byte x by_
                  rw [← hz] at hxy
                  have hft1 := tok_fits (t.take a) [z] (by rw [List.length_take, HJL.out]; have := HJB.out; simp; omega)
                  have hft2 := tok_fits (t.take a ++ [z]) (t.drop (a + 1)) (by rw [List.length_append, List.length_take, List.length_drop, HJL.out]; have := HJB.out; simp; omega)
                  have hcz := tok_conv (W1.alloc (.cells #[.int .u8 (z.toNat : Int)] 5)).drew _ (some ⟨W1.heap.size, 0, none⟩) 1 1 [z] (sees_new W1 #[.int .u8 (z.toNat : Int)] 5).drew
                  have hA5 := hA.alloc (.cells #[.int .u8 (z.toNat : Int)] 5)
                  have d2 : (W1.alloc (.cells #[.int .u8 (z.toNat : Int)] 5)).cell? ⟨G, 2, none⟩ = some (.int .i64 kp) := by rw [hA5.cell]; rfl
                  have d3 : (W1.alloc (.cells #[.int .u8 (z.toNat : Int)] 5)).cell? ⟨G, 3, none⟩ = some (.int .i64 (a : Int)) := by rw [hA5.cell]; rfl
                  have d4 : (W1.alloc (.cells #[.int .u8 (z.toNat : Int)] 5)).cell? ⟨G, 4, none⟩ = some (.int .u8 (by_.toNat : Int)) := by rw [hA5.cell]; rfl
                  clear hA5
                  have HZ2 := Lib.hid hz
                  clear hz
                  go_upto_region 23 with (fail)
                  go_region
                  have hd5 : Dsk (W1.alloc (.cells #[.int .u8 (z.toNat : Int)] 5)).drew g g (sy ++ tl) sy.length := (hd1.alloc _).drew
                  have hb5 : Below w.heap.size w (W1.alloc (.cells #[.int .u8 (z.toNat : Int)] 5)).drew := (hb1.alloc hb1.size _).drew
                  clear hcz hx hxy hp1 hp2 hft1 hft2 hsl1 hsl2 hw8 c0 c1 c2 c3 c4 hA
                  go_wp2_with (go_at_call 55; refine (HW.out _ hd5).mono ?_; rintro e w6 ⟨rfl, hd6, hb6⟩)
                  go_meet
                  rw [HCS.out] at hd6
                  exact ⟨sy, turn t a by_, 0, rfl, rfl, rfl, rfl, hd6, by have h1 := HLN.out; have h2 := HJL.out; have h3 := HJ.out; simp only [List.length_append, turn_length] at h1 ⊢; omega, hb5.trans (hb6.mono hgw)⟩
                · as_aux_lemma =>
                  have hCR := HCR.out
                  rw [if_neg hat] at hCR
                  have HCS := Lib.hid hCR
                  clear HCR hCR
                  by_cases h0 : 0 ≤ at_
                  · have h1 : ¬ at_ < (j : Int) := fun h => hat ⟨h0, h⟩
                    go_wp2_with (go_at_call 55; refine (HW.out _ hd1).mono ?_; rintro e w6 ⟨rfl, hd6, hb6⟩)
                    go_meet
                    rw [HCS.out] at hd6
                    exact ⟨sy, t, 0, rfl, rfl, rfl, rfl, hd6, by have h1 := HLN.out; have h2 := HJL.out; have h3 := HJ.out; simp only [List.length_append] at h1 ⊢; omega, hb1.trans (hb6.mono hgw)⟩
                  · go_wp2_with (go_at_call 55; refine (HW.out _ hd1).mono ?_; rintro e w6 ⟨rfl, hd6, hb6⟩)
                    go_meet
                    rw [HCS.out] at hd6
                    exact ⟨sy, t, 0, rfl, rfl, rfl, rfl, hd6, by have h1 := HLN.out; have h2 := HJL.out; have h3 := HJ.out; simp only [List.length_append] at h1 ⊢; omega, hb1.trans (hb6.mono hgw)⟩
            · as_aux_lemma =>
              have q0 : (kd % 5 == 0) = false := by simp [hm]
              have q1 : (kd % 5 == 1) = false := by simp [hm]
              have q2 : (kd % 5 == 2) = false := by simp [hm]
              have q3 : (kd % 5 == 3) = true := by simp [hm]
              have hap := tok_app sy tl
              have hfit := tok_fits sy tl (by omega)
              have z3 := tok_size (sy ++ tl)
              rw [List.length_append] at z3
              have HW := Lib.hid (dCut_any g g sy.length (sy ++ tl) at_ W1 hd1)
              have hcf : cutF (sy ++ tl) sy.length at_ = if at_ < 0 ∨ (sy.length : Int) + (tl.length : Int) < at_ then (sy ++ tl, sy.length, 5) else ((sy ++ tl).take at_.toNat, at_.toNat, 0) := by
                unfold cutF
                rw [show (((sy ++ tl).length : Nat) : Int) = (sy.length : Int) + (tl.length : Int) from by rw [List.length_append]; omega]
              have HCF := Lib.hid hcf
              clear hl300 hlB hm hcf
              by_cases h0 : at_ < 0
              · have hcg := HCF.out
                rw [if_pos (Or.inl h0)] at hcg
                rw [hcg] at HW
                have HWO := HW.out
                have HWH := Lib.hid HWO
                clear hcg HCF HW HWO
                go_wp2_with (go_at_call 56; refine HWH.out.mono ?_; rintro e w6 ⟨rfl, hd6, hb6⟩)
                go_meet
                exact ⟨sy, tl, 5, rfl, rfl, rfl, rfl, hd6, by have h1 := HLN.out; omega, hb1.trans (hb6.mono hgw)⟩
              · by_cases h1 : (sy.length : Int) + (tl.length : Int) < at_
                · as_aux_lemma =>
                  have hcg := HCF.out
                  rw [if_pos (Or.inr h1)] at hcg
                  rw [hcg] at HW
                  have HWO := HW.out
                  have HWH := Lib.hid HWO
                  clear hcg HCF HW HWO
                  go_wp2_with (go_at_call 56; refine HWH.out.mono ?_; rintro e w6 ⟨rfl, hd6, hb6⟩)
                  go_meet
                  exact ⟨sy, tl, 5, rfl, rfl, rfl, rfl, hd6, by have h1 := HLN.out; omega, hb1.trans (hb6.mono hgw)⟩
                · as_aux_lemma =>
                  have hcg := HCF.out
                  rw [if_neg (fun h => h.elim h0 h1)] at hcg
                  obtain ⟨a, rfl⟩ : ∃ a : Nat, at_ = a := ⟨at_.toNat, by omega⟩
                  simp only [Int.toNat_natCast] at hcg
                  rw [hcg] at HW
                  have HWO := HW.out
                  have HWH := Lib.hid HWO
                  have hcut1 := tok_cut (sy ++ tl) a
                  have hal : ((sy ++ tl).take a).length = a := by rw [List.length_take, List.length_append]; omega
                  have HAL := Lib.hid hal
                  have ha9 : (a : Int) ≤ ((sy.length + tl.length : Nat) : Int) := by omega
                  have ha8 : a ≤ sy.length + tl.length := by omega
                  clear hcg HCF HW HWO hal
                  go_wp2_with (go_at_call 56; refine HWH.out.mono ?_; rintro e w6 ⟨rfl, hd6, hb6⟩)
                  go_meet
                  exact ⟨(sy ++ tl).take a, [], 0, rfl, rfl, rfl, rfl, by rw [List.append_nil, HAL.out]; exact hd6, by have h1 := HLN.out; have h2 := HAL.out; rw [List.length_append] at h1; rw [List.append_nil, h2]; omega, hb1.trans (hb6.mono hgw)⟩
            · as_aux_lemma =>
              have q0 : (kd % 5 == 0) = false := by simp [hm]
              have q1 : (kd % 5 == 1) = false := by simp [hm]
              have q2 : (kd % 5 == 2) = false := by simp [hm]
              have q3 : (kd % 5 == 3) = false := by simp [hm]
              have q4 : (kd % 5 == 4) = true := by simp [hm]
              have z1 := tok_size sy
              have HW := Lib.hid (fun W h => dSpoil_any g g sy.length (sy ++ tl) at_ by_ W h)
              have HLS := Lib.hid (show sy.length ≤ 24000 by omega)
              clear hl300 hlB hm
              by_cases h0 : at_ < 0
              · have hcg : spoilF (sy ++ tl) sy.length at_ by_ = (sy ++ tl, 5) := if_pos (Or.inl h0)
                rw [hcg] at HW
                clear hcg
                go_wp2_with (go_at_call 57; refine (HW.out _ hd1).mono ?_; rintro e w6 ⟨rfl, hd6, hb6⟩)
                go_meet
                exact ⟨sy, tl, 5, rfl, rfl, rfl, rfl, hd6, by have h1 := HLN.out; omega, hb1.trans (hb6.mono hgw)⟩
              · by_cases h1 : (sy.length : Int) ≤ at_
                · as_aux_lemma =>
                  have hcg : spoilF (sy ++ tl) sy.length at_ by_ = (sy ++ tl, 5) := if_pos (Or.inr h1)
                  rw [hcg] at HW
                  clear hcg
                  go_wp2_with (go_at_call 57; refine (HW.out _ hd1).mono ?_; rintro e w6 ⟨rfl, hd6, hb6⟩)
                  go_meet
                  exact ⟨sy, tl, 5, rfl, rfl, rfl, rfl, hd6, by have h1 := HLN.out; omega, hb1.trans (hb6.mono hgw)⟩
                · as_aux_lemma =>
                  have hcg : spoilF (sy ++ tl) sy.length at_ by_ = (turn (sy ++ tl) at_.toNat by_, 0) := if_neg (fun h => h.elim h0 h1)
                  obtain ⟨a, rfl⟩ : ∃ a : Nat, at_ = a := ⟨at_.toNat, by omega⟩
                  simp only [Int.toNat_natCast] at hcg
                  have haj : a < sy.length := by omega
                  rw [turn_left sy tl a by_ haj] at hcg
                  rw [hcg] at HW
                  have hsl1 := tok_cut sy a
                  have hsl2 := tok_rest sy (a + 1)
                  have hw8 : IntKind.i64.wrap ((a : Int) + 1) = (a : Int) + 1 := by rw [IntKind.wrap_i64]; have := HLS.out; omega
                  have ha1 : (a : Int) < (sy.length : Int) := by omega
                  have hb1' : (0 : Int) ≤ (a : Int) + 1 := by omega
                  have hb2' : (a : Int) + 1 ≤ (sy.length : Int) := by omega
                  have hb3' : ((a : Int) + 1).toNat = a + 1 := by omega
                  have hb4' : a ≤ sy.length := by omega
                  have hb5' : a + 1 ≤ sy.length := by omega
                  obtain ⟨x, z, hx, hz, hp1, hp2⟩ := tok_turn sy a by_ haj
                  have hxy := xor_byte x by_
                  rw [← hz] at hxy
                  have hft1 := tok_fits (sy.take a) [z] (by rw [List.length_take]; have := HLS.out; simp; omega)
                  have hft2 := tok_fits (sy.take a ++ [z]) (sy.drop (a + 1)) (by rw [List.length_append, List.length_take, List.length_drop]; have := HLS.out; simp; omega)
                  have hcz := tok_conv (W1.alloc (.cells #[.int .u8 (z.toNat : Int)] 5)).drew _ (some ⟨W1.heap.size, 0, none⟩) 1 1 [z] (sees_new W1 #[.int .u8 (z.toNat : Int)] 5).drew
                  have hA5 := hA.alloc (.cells #[.int .u8 (z.toNat : Int)] 5)
                  have d2 : (W1.alloc (.cells #[.int .u8 (z.toNat : Int)] 5)).cell? ⟨G, 2, none⟩ = some (.int .i64 kp) := by rw [hA5.cell]; rfl
                  have d3 : (W1.alloc (.cells #[.int .u8 (z.toNat : Int)] 5)).cell? ⟨G, 3, none⟩ = some (.int .i64 (a : Int)) := by rw [hA5.cell]; rfl
                  have d4 : (W1.alloc (.cells #[.int .u8 (z.toNat : Int)] 5)).cell? ⟨G, 4, none⟩ = some (.int .u8 (by_.toNat : Int)) := by rw [hA5.cell]; rfl
                  clear hA5
                  have HZ2 := Lib.hid hz
                  clear hz hcg
                  go_upto_region 34 with (fail)
                  go_region
                  have hd5 : Dsk (W1.alloc (.cells #[.int .u8 (z.toNat : Int)] 5)).drew g g (sy ++ tl) sy.length := (hd1.alloc _).drew
                  have hb5 : Below w.heap.size w (W1.alloc (.cells #[.int .u8 (z.toNat : Int)] 5)).drew := (hb1.alloc hb1.size _).drew
                  clear hcz hx hxy hp1 hp2 hft1 hft2 hsl1 hsl2 hw8 c0 c1 c2 c3 c4 hA z1
                  go_wp2_with (go_at_call 57; refine (HW.out _ hd5).mono ?_; rintro e w6 ⟨rfl, hd6, hb6⟩)
                  go_meet
                  exact ⟨turn sy a by_, tl, 0, rfl, rfl, rfl, rfl, by rw [turn_length]; exact hd6, by have h1 := HLN.out; simp only [List.length_append, turn_length] at h1 ⊢; omega, hb5.trans (hb6.mono hgw)⟩
          case rest => as_aux_lemma =>
            obtain ⟨sy2, tl2, e, rfl, rfl, rfl, rfl, hd3, hl3, hb3⟩ := hcut
            clear c0 c1 c2 c3 c4 hA hd1 hb1 hs1
            unfold text
            have HBY := Lib.hid (dBytes_any g g sy2.length (sy2 ++ tl2) wc hd3 (by omega))
            have HLE := Lib.hid (fun W h => dLen_any g g sy2.length (sy2 ++ tl2) W h)
            rw [List.length_append] at HBY
            simp only [List.length_append, Int.natCast_add] at HLE
            have hap := tok_app sy2 tl2
            have hl4 := hl3
            rw [List.length_append] at hl4
            have hfit := tok_fits sy2 tl2 (by omega)
            have z1 := tok_size sy2
            have z2 := tok_size tl2
            have HD := Lib.hid hd3
            clear hd3 hl4
            go_wp2_with (first
              | (go_at_call 58; refine HBY.out.mono ?_; rintro e w4 ⟨A4, c4, rfl, hf4, hb4⟩; have hcv4 := tok_conv w4 _ A4 _ c4 (sy2 ++ tl2) hf4.sees; have hd4 := HD.out.on hb4)
              | (go_at_call 59; refine (dSynced_any g g sy2.length (sy2 ++ tl2) _ hd4).mono ?_; rintro e w' ⟨rfl, rfl⟩)
              | (go_at_call 60; refine (HLE.out _ hd4).mono ?_; rintro e w' ⟨rfl, rfl⟩))
            go_roundw
            case rel => exact ⟨k + 1, sy2, tl2, by omega, by go_num, rfl, rfl, hd4, hl3, bthen hb3 hb4⟩
            case measure => simp [intOf]; omega
      · have hkn : k = n' := by omega
        subst hkn
        go_wp2_with fail
        go_ret
        exact ⟨rfl, hbel⟩
end Go.Proofs.Ytnbkphdkpncjfaa.diskPlays
