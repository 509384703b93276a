/- The fixed facts at the head of layer 1's statements: they hold, whatever the world. -/
import Derived.Test.YtnadmijfbfgcnaaW5
namespace Go.Proofs.Ytnadmijfbfgcnaa
open Go.RowKit

theorem RetBytes.at {w w' : World} {l : List UInt8} {e : Ending} {n : Nat} {m : List UInt8} (h : RetBytes w l e w') (hm : l = m) (hl : m.length = n) :
    ∃ A c, e = .returned (.slice A n c) ∧ Sees w' w'.heap.size A n (cbs m) ∧ n ≤ c ∧ c ≤ maxLen ∧ Below w.heap.size w w' := by
  subst hm
  subst hl
  exact h

theorem lit1 : ([] : List UInt8) ++ be (u64n 258) 8 = [0, 0, 0, 0, 0, 0, 1, 2] := by decide
theorem lit2 : ([0, 0, 0, 0, 0, 0, 1, 2] : List UInt8) ++ textBytes ⟨#[104, 105]⟩ = [0, 0, 0, 0, 0, 0, 1, 2, 0, 2, 104, 105] := by decide
theorem lit3 : ([0, 0, 0, 0, 0, 0, 1, 2, 0, 2, 104, 105] : List UInt8) ++ boolBytes true = [0, 0, 0, 0, 0, 0, 1, 2, 0, 2, 104, 105, 1] := by decide
theorem rs1 : (RS.mk [0, 0, 0, 0, 0, 0, 1, 2, 0, 2, 104, 105, 1] false).int 0 999 = (258, ⟨[0, 2, 104, 105, 1], false⟩) := by kernel_rfl
theorem rs2 : (RS.mk [0, 2, 104, 105, 1] false).text 9 = ([104, 105], ⟨[1], false⟩) := by kernel_rfl
theorem rs3 : (RS.mk [1] false).bool = (true, ⟨[], false⟩) := by kernel_rfl
theorem rs4 : (RS.mk [2] false).bool = (false, RS.failed) := by kernel_rfl

set_option maxHeartbeats 1600000 in
set_option maxRecDepth 100000 in
theorem fixed1_any (w : World) :
    Calls Try.prog 9 #[] w fun e w' => e = .returned (.bool true) ∧ Below w.heap.size w w' := by
  go_enter Try.func9, Try.ntmps9
  go_wp2_with fail
  refine (int_any none 0 0 [] 258 _ (Sees.none_ _ _ _) (by omega)).mono ?_
  intro e w1 h1
  obtain ⟨A1, c1, rfl, hs1, _, _, hb1⟩ := h1.at lit1 (n := 8) rfl
  clear h1
  go_wp2_with fail
  refine (text_any A1 8 c1 _ ⟨#[104, 105]⟩ _ hs1 (by omega)).mono ?_
  intro e w2 h1
  obtain ⟨A2, c2, rfl, hs2, _, _, hb2⟩ := h1.at lit2 (n := 12) rfl
  clear h1
  go_wp2_with fail
  refine (bool_any A2 12 c2 _ true _ hs2 (by omega)).mono ?_
  intro e w3 h1
  obtain ⟨A3, c3, rfl, hs3, _, _, hb3⟩ := h1.at lit3 (n := 13) rfl
  clear h1 hs1 hs2
  have hbw : Below w.heap.size w w3 := (hb1.trans (hb2.mono hb1.size)).trans (hb3.mono (Nat.le_trans hb1.size hb2.size))
  clear hb1 hb2 hb3
  go_wp2_with fail
  refine (read_any A3 13 c3 _ _ hs3 (by omega)).mono ?_
  rintro e w4 ⟨g, rfl, hr4, hb4, hg4⟩
  go_wp2_with fail
  refine (rInt_any g _ 0 999 _ hr4).mono ?_
  rw [rs1]
  rintro e w5 ⟨rfl, hr5, hg5⟩
  have hb5 := below_gb hb4 hg5 hg4 hb4.size
  clear hb4 hg5 hr4
  go_wp2_with fail
  refine (rText_any g _ 9 _ hr5).mono ?_
  rw [rs2]
  rintro e w6 ⟨rfl, hr6, hg6⟩
  have hb6 := below_gb hb5 hg6 hg4 hb5.size
  clear hb5 hg6 hr5
  go_wp2_with fail
  refine (rBool_any g _ _ hr6).mono ?_
  rw [rs3]
  rintro e w7 ⟨rfl, hr7, hg7⟩
  have hb7 := below_gb hb6 hg7 hg4 hb6.size
  clear hb6 hg7 hr6
  go_wp2_with fail
  refine (read_any _ 1 1 [2] _ (sees_new w7 #[.int .u8 2] 5) (by omega)).mono ?_
  rintro e w8 ⟨g', rfl, hr8, hb8, hg8⟩
  have hr7' := (hr7.alloc (.cells #[.int .u8 2] 5)).below hb8 (by simp; have := hr7.lt; omega)
  have hb8' := (hb7.alloc hb7.size (.cells #[.int .u8 2] 5)).trans (hb8.mono (by simp; have := hb7.size; omega))
  have hgg : g < g' := by have := hr7.lt; simp at hg8; omega
  clear hr7 hb7 hb8
  go_wp2_with fail
  refine (rBool_any g' _ _ hr8).mono ?_
  rw [rs4]
  rintro e w9 ⟨rfl, hr9, hg9⟩
  have hb9 := below_gb hb8' hg9 (by omega) hb8'.size
  have hr9' : Rdr w9 g ⟨[], false⟩ := hr7'.keep (fun k hk => hg9.block k (by have := hr8.lt; omega) (fun e => by injection e with e; omega))
  clear hr7' hb8' hg9 hr8
  obtain ⟨b, off, hA, hbb, hc⟩ := (hs3.below hb9).2 (by omega)
  subst hA
  have h6 := hc 6 (.int .u8 1) rfl
  have h7 := hc 7 (.int .u8 2) rfl
  clear hc hs3
  have hd1 : (RS.mk [] false).done = true := rfl
  have hd2 : RS.failed.done = false := rfl
  have hd3 : RS.failed.bad = true := rfl
  go_wp2_with (first | (go_at_call 22; first | ((with_reducible refine (rDone_any g _ _ hr9').mono ?_); rintro e w' ⟨rfl, rfl⟩) | ((with_reducible refine (rDone_any g' _ _ hr9).mono ?_); rintro e w' ⟨rfl, rfl⟩)) | (go_at_call 18; first | ((with_reducible refine (rFail_any g' _ _ hr9).mono ?_); rintro e w' ⟨rfl, rfl⟩) | ((with_reducible refine (rFail_nil _).mono ?_); rintro e w' ⟨rfl, rfl⟩)) | (go_at_call 21; refine (rLeft_nil _).mono ?_; rintro e w' ⟨rfl, rfl⟩) | (go_at_call 17; refine (rInt_nil _ _ _).mono ?_; rintro e w' ⟨rfl, rfl⟩))
  go_ret
  exact ⟨rfl, hbw.trans (hb9.mono hbw.size)⟩
end Go.Proofs.Ytnadmijfbfgcnaa
