/- The fixed facts at the head of layer 5's statements: they hold, whatever the world. -/
import Derived.Test.YtjmpokaifnhnmaaRec5
import Derived.Test.YtjmpokaifnhnmaaC3
import Derived.Lib.SlBytesConst
namespace Go.Proofs.Ytjmpokaifnhnmaa
open Go.RowKit

theorem appF_right (all : List UInt8) (r : RecM) (h : RightM r) (hl : all.length + r.2.length ≤ 1000000) : appF all r = (all ++ recB r, 0) := by
  have hb : bytesF r = (recB r, 0) := by
    unfold bytesF
    rw [if_neg h.1, if_neg (by have := h.2; omega)]
  unfold appF
  rw [hb, if_neg (by simp)]
  unfold writeF
  simp only
  rw [if_neg (by rw [recB_length]; omega)]
def r1 : RecM := (1, [120])
def r2 : RecM := (2, [])
theorem fix_app1 : appF [] r1 = (recB r1, 0) := appF_right [] r1 ⟨by decide, by decide⟩ (by decide)
theorem fix_app2 : appF (recB r1) r2 = (recB r1 ++ recB r2, 0) := appF_right _ r2 ⟨by decide, by decide⟩ (by rw [recB_length]; decide)
theorem fix_crash : crashF (recB r1 ++ recB r2) 10 5 (-1) 0 = recB r1 ++ (recB r2).take 5 := by
  have h1 : (recB r1).length = 10 := recB_length _
  have h2 : (recB r2).length = 9 := recB_length _
  unfold crashF
  rw [if_neg (by simp), List.length_append, h1, h2]
  have e : 10 + (min (max (5 : Int) 0) (((10 + 9 : Nat) : Int) - ((10 : Nat) : Int))).toNat = 15 := by decide
  rw [e, List.take_append, h1, List.take_of_length_le (by omega)]
theorem fix_read : readB (recB r1 ++ (recB r2).take 5) = ([r1], 10, (readB ((recB r2).take 5)).2.2) := by
  have h1 : (recB r1).length = 10 := recB_length _
  have h2 := readB_stop ((recB r2).take 5) (by unfold recB; rw [takeF_part _ 5 (by decide) (by decide)]; decide)
  rw [readB_cons r1 _ ⟨by decide, by decide⟩, h2.1, h2.2, h1]

set_option maxHeartbeats 1600000 in
set_option maxRecDepth 100000 in
theorem fixed5_any (w : World) :
    Calls Try.prog 6 #[] w fun e w' => e = .returned (.bool true) ∧ Below w.heap.size w w' := by
  have kc := fun (W : World) (C : Array Value) (n c : Nat) => Lib.run_convert_bytes_const (P := Try.prog) W 22 5 C n c sl_u8 Try.underlying5
  go_enter Try.func6, Try.ntmps6
  go_wp2_with fail
  refine (dNew_any w).mono ?_
  rintro e w1 ⟨rfl, hd1, hb1⟩
  generalize hg : w.heap.size = g at *
  go_wp2_with fail
  have hs2 : Sees (w1.alloc (.cells #[Value.int .u8 120] 5 (1, 2))) (w1.alloc (.cells #[Value.int .u8 120] 5 (1, 2))).heap.size (some ⟨w1.heap.size, 0, none⟩) 1 (cbs [120]) := sees_mark w1 #[Value.int .u8 120] 5 (1, 2)
  have hd2 := hd1.alloc (.cells #[Value.int .u8 120] 5 (1, 2))
  have hb2 := hb1.alloc (by have := hb1.size; omega) (.cells #[Value.int .u8 120] 5 (1, 2))
  refine (wappend_any g g 0 [] 1 _ 1 1 [120] _ hd2 hs2 (by have := hb2.size; omega) (by simp)).mono ?_
  rintro e w3 ⟨rfl, hd3, hb3, _⟩
  have e3 : appF [] ((1 : UInt8), ([120] : List UInt8)) = (recB r1, 0) := fix_app1
  rw [e3] at hd3 ⊢
  have hb3' := hb2.trans hb3
  simp only at hd3
  clear hd1 hb1 hd2 hb2 hs2 hb3 e3
  go_wp2_with fail
  refine (dSync_any g g 0 (recB r1) w3 hd3).mono ?_
  rintro e w4 ⟨rfl, hd4, hb4⟩
  have hb4' := hb3'.trans hb4
  have e4 : (recB r1).length = 10 := recB_length _
  rw [e4] at hd4
  clear hd3 hb3' hb4
  go_wp2_with fail
  refine (wappend_any g g 10 (recB r1) 2 none 0 0 [] w4 hd4 (Sees.none_ _ _ _) (by have := hb4'.size; omega) (by rw [e4]; omega)).mono ?_
  rintro e w6 ⟨rfl, hd6, hb6, _⟩
  have e6 : appF (recB r1) ((2 : UInt8), ([] : List UInt8)) = (recB r1 ++ recB r2, 0) := fix_app2
  rw [e6] at hd6 ⊢
  have hb6' := hb4'.trans hb6
  simp only at hd6
  clear hd4 hb4' hb6 e6 e4 kc
  go_wp2_with fail
  refine (dCrash_any g g 10 (recB r1 ++ recB r2) 5 (-1) 0 w6 hd6 (by rw [List.length_append, recB_length, recB_length]; decide)).mono ?_
  rintro e w7 ⟨rfl, hd7, hb7⟩
  rw [fix_crash] at hd7
  have hb7' := hb6'.trans hb7
  clear hd6 hb6' hb7
  go_wp2_with fail
  have hrl : (recB r1 ++ (recB r2).take 5).length ≤ 1048576 := by rw [List.length_append, List.length_take, recB_length, recB_length]; decide
  refine (wrecover_any g g 10 _ w7 hd7 (by have := hb7'.size; omega) hrl (by rw [fix_read]; exact Nat.le_refl _)).mono ?_
  rintro e w8 ⟨A8, c8, rs, rfl, hrs, hrf, hd8, hb8, _⟩
  rw [fix_read] at hrs hd8
  simp only at hrs hd8
  have hd8' : Dsk w8 g g ((recB r1 ++ (recB r2).take 5).take 10) 10 := hd8
  have hl8 : ((recB r1 ++ (recB r2).take 5).take 10).length = 10 := by rw [List.length_take, List.length_append, recB_length]; show min 10 (10 + _) = 10; omega
  have hb8' := hb7'.trans hb8
  clear hd7 hb7' hb8 hd8 hrl
  generalize (recB r1 ++ (recB r2).take 5).take 10 = all8 at *
  obtain ⟨r, rfl⟩ : ∃ r, rs = [r] := by
    have := congrArg List.length hrs
    simp only [List.length_map, List.length_cons, List.length_nil] at this
    match rs, this with
    | [r], _ => exact ⟨r, rfl⟩
  obtain ⟨rk, rA, rn, rc, rl⟩ := r
  have hrm : rk = 1 ∧ rl = [120] := by simpa [RecP.m, r1] using hrs
  obtain ⟨rfl, rfl⟩ := hrm
  clear hrs
  go_wp2_with fail
  refine (wbytes_any 0 none 0 0 [] w8 (Sees.none_ _ _ _)).mono ?_
  intro e w9 h
  obtain ⟨A9, c9, rfl, _, hb9⟩ := h.at (p := []) (k := 1) (m := 0) rfl rfl
  have hb9' := hb8'.trans (hb9.mono (by have := hb8'.size; omega))
  have hd9 := hd8'.on hb9
  have hrf9 := hrf.on hb9
  clear h hb8' hd8' hrf hb9
  go_wp2_with fail
  refine (wrecover_nil w9).mono ?_
  rintro e w' ⟨rfl, rfl⟩
  obtain ⟨b, off, rfl, hbl, hc1, hc2, hs9⟩ := hrf9.recs.at_ (j := 0) (by simp)
  have hc1' : w'.cell? ⟨b, off, none⟩ = some (.int .u8 1) := hc1
  have hc2' : w'.cell? ⟨b, off + 1, none⟩ = some (.slice rA rn rc) := hc2
  have hrn : rn = 1 := by have := hs9.1; simp at this; exact this.symm
  subst hrn
  have hcv := conv_sees' w' _ rA 1 rc [120] hs9
  have hLN := Lib.hid (dLen_any g g 10 all8 w' hd9)
  rw [hl8] at hLN
  have hSY := Lib.hid (dSynced_any g g 10 all8 w' hd9)
  clear hc1 hc2 hs9 hrf9
  go_wp2_with (first
    | (go_at_call 19; refine hLN.out.mono ?_; rintro e w'' ⟨rfl, rfl⟩)
    | (go_at_call 20; refine hSY.out.mono ?_; rintro e w'' ⟨rfl, rfl⟩)
    | (go_at_call 15; refine (wappend_nil 0 none 0 0 _).mono ?_; rintro e w'' ⟨rfl, rfl⟩))
  go_ret
  subst hg
  exact ⟨rfl, hb9'.alloc (by have := hb9'.size; omega) _⟩
end Go.Proofs.Ytjmpokaifnhnmaa
