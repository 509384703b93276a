/- The fixed facts at the head of layer 3's statements: they hold, whatever the world. -/
import Derived.Test.YtnbkphdkpncjfaaF4
import Derived.Test.YtnbkphdkpncjfaaC3
import Derived.Lib.SlBytesConst
namespace Go.Proofs.Ytnbkphdkpncjfaa
open Go.RowKit

def hi : List UInt8 := [104, 105]
theorem hi_take : takeF (frameOf hi) = ⟨hi, 10, 0⟩ := by have := takeF_frame hi [] (by decide); rw [List.append_nil] at this; exact this
theorem hi_whole : wholeF (frameOf hi ++ [0]) = ([], 2) := by
  have := takeF_frame hi [0] (by decide)
  unfold wholeF
  rw [this]
  rfl
theorem hi_all : allF (frameOf hi ++ [1, 2]).length (frameOf hi ++ [1, 2]) = ([hi], 10, 2) := by
  have h1 := takeF_frame hi [1, 2] (by decide)
  have hl : (frameOf hi ++ [1, 2]).length = 10 + 1 + 1 := rfl
  have hd : (frameOf hi ++ [1, 2]).drop 10 = [1, 2] := List.drop_left' rfl
  rw [hl, allF_more _ _ (by rw [hl]; omega) (by rw [h1]), h1]
  simp only
  have h2 : hi.length + 8 = 10 := rfl
  rw [h2, hd, allF_end _ _ (by decide) (by decide)]
  rfl

set_option maxHeartbeats 1600000 in
set_option maxRecDepth 100000 in
theorem fixed3_any (w : World) :
    Calls Try.prog 41 #[] w fun e w' => e = .returned (.bool true) ∧ Below w.heap.size w w' := by
  have kc := fun (W : World) (C : Array Value) (n c : Nat) => Lib.run_convert_bytes_const (P := Try.prog) W 23 5 C n c sl_u8 Try.underlying5
  obtain ⟨i0, hi0, hz0, hz1, hz2⟩ := info_parts u8_row
  go_enter Try.func41, Try.ntmps41
  go_wp2_with fail
  clear kc
  have hs0 : Sees (w.alloc (.cells #[Value.int .u8 104, Value.int .u8 105] 5 (2, 3))) (w.alloc (.cells #[Value.int .u8 104, Value.int .u8 105] 5 (2, 3))).heap.size (some ⟨w.heap.size, 0, none⟩) 2 (cbs hi) := sees_mark w #[Value.int .u8 104, Value.int .u8 105] 5 (2, 3)
  have hb0 := (Below.refl w.heap.size w).alloc (Nat.le_refl _) (.cells #[Value.int .u8 104, Value.int .u8 105] 5 (2, 3))
  refine (put_any none 0 0 [] _ 2 2 hi _ (Sees.none_ _ _ _) hs0 (by omega) (by omega)).mono ?_
  intro e w1 h
  obtain ⟨A1, c1, rfl, hf1, hb1⟩ := h.at (p := frameOf hi) (m := 10) (List.nil_append _) rfl
  have hb1' := bthen hb0 hb1
  have hf1' := hf1.mono hb0.size
  clear hs0 hb0 hb1 hf1 h
  generalize World.alloc w (.cells #[Value.int .u8 104, Value.int .u8 105] 5 (2, 3)) = w0 at *
  have hcA : 10 ≤ c1 := hf1'.2.1
  have hcm : c1 ≤ maxLen := hf1'.2.2.1
  go_wp2_with fail
  refine (take_any A1 10 c1 (frameOf hi) _ w1 hf1'.sees (Nat.le_refl _) hcA hcm (by omega)).mono ?_
  intro e w2 h
  obtain ⟨A2, c2, rfl, hf2, hb2⟩ := h.at hi_take (m := 2) rfl
  have hfb2 := hf1'.on hb2
  have hb2' := bthen hb1' hb2
  have hlt := hf1'.lt
  clear hb2 hf1' hb1' h
  have hs3 : Sees (w2.alloc (.cells #[.int .u8 0] 5)) (w2.alloc (.cells #[.int .u8 0] 5)).heap.size (some ⟨w2.heap.size, 0, none⟩) 1 (cbs [0]) := sees_new w2 #[.int .u8 0] 5
  have hf3 := hf2.alloc (.cells #[.int .u8 0] 5)
  have hfb3 := hfb2.alloc (.cells #[.int .u8 0] 5)
  have hb3 := hb2'.alloc hb2'.size (.cells #[.int .u8 0] 5)
  have hz3 := hb3.size
  have hm1 : 10 + 1 ≤ maxLen := by unfold maxLen; omega
  have hm2 : (10 + 1) * 1 ≤ 140737488355328 := by omega
  clear hf2 hfb2 hb2'
  go_wp2_with (at_builtin; refine wpList_append_free _ rfl (.tmp 27) (.tmp 28) _ rfl w.heap.size 5 i0 _ 1 sl_u8 hi0 hz0 hz1 hz2 rfl A1 10 c1 (cbs (frameOf hi)) rfl hfb3 (cbs_one _) _ _ 1 1 (cbs [0]) rfl hs3 (cbs_one _) hm1 hm2 hz3 ?_
               intro A4 c4 w4 ha
               have hf4 := ha.1
               have hfb4 := ha.2.1
               have hb4 := ha.below hfb3 hb3 hz3 (Nat.le_refl _)
               have hp4 := ha.apart hlt hf3
               rw [← cbs_append] at hf4
               clear ha hf3 hfb3 hb3 hs3 hlt)
  refine (whole_any A4 11 c4 (frameOf hi ++ [0]) _ w4 hf4.sees (Nat.le_refl _) hf4.2.1 hf4.2.2.1 (by omega)).mono ?_
  intro e w5 h
  obtain ⟨A5, c5, rfl, _, hb5⟩ := h.at hi_whole (m := 0) rfl
  have hfb5 := hfb4.on hb5
  have hp5 := hp4.on hb5
  have hb5' := bthen hb4 hb5
  clear hb5 hb4 hfb4 hp4 hf4 h
  have hf6 := free_new w5 #[] 5 (by show 0 ≤ maxLen; decide)
  have hb6 := (Below.refl w5.heap.size w5).alloc (Nat.le_refl _) (.cells #[] 5)
  have hz6 := hb6.size
  have hfb6 := (hfb5.alloc (.cells #[] 5)).sees
  have hm3 : 0 + 10 ≤ maxLen := by unfold maxLen; omega
  have hm4 : (0 + 10) * 1 ≤ 140737488355328 := by omega
  go_wp2_with (first
    | (at_builtin; refine wpList_append_free _ rfl (.tmp 34) (.tmp 35) _ rfl w5.heap.size 5 i0 _ 1 sl_u8 hi0 hz0 hz1 hz2 rfl _ 0 0 [] rfl hf6 (by simp) _ A1 10 c1 (cbs (frameOf hi)) rfl hfb6 (cbs_one _) hm3 hm4 hz6 ?_
       intro A7 c7 w7 ha
       have hf7 : Free w7 w5.heap.size 5 A7 10 c7 (cbs (frameOf hi)) := ha.1
       have hb7 := ha.below hf6 hb6 hz6 (Nat.le_refl _)
       clear ha hf6 hb6 hfb6 hz6
       have hs8 : Sees (w7.alloc (.cells #[.int .u8 1, .int .u8 2] 5)) (w7.alloc (.cells #[.int .u8 1, .int .u8 2] 5)).heap.size (some ⟨w7.heap.size, 0, none⟩) 2 (cbs [1, 2]) := sees_new w7 #[.int .u8 1, .int .u8 2] 5
       have hf8 := hf7.alloc (.cells #[.int .u8 1, .int .u8 2] 5)
       have hb8 := hb7.alloc hb7.size (.cells #[.int .u8 1, .int .u8 2] 5)
       have hz8 := hb8.size
       have hm5 : 10 + 2 ≤ maxLen := (by unfold maxLen; omega)
       have hm6 : (10 + 2) * 1 ≤ 140737488355328 := (by omega)
       clear hf7 hb7)
    | (at_builtin; refine wpList_append_free _ rfl (.tmp 36) (.tmp 37) _ rfl w5.heap.size 5 i0 _ 1 sl_u8 hi0 hz0 hz1 hz2 rfl A7 10 c7 (cbs (frameOf hi)) rfl hf8 (cbs_one _) _ _ 2 2 (cbs [1, 2]) rfl hs8 (cbs_one _) hm5 hm6 hz8 ?_
       intro A9 c9 w9 ha
       have hf9 := ha.1
       have hb9 := ha.below hf8 hb8 hz8 (Nat.le_refl _)
       rw [← cbs_append] at hf9
       clear ha hf8 hb8 hs8 hz8))
  refine (all_any A9 12 c9 (frameOf hi ++ [1, 2]) w9 hf9.sees hf9.2.1 hf9.2.2.1 (by omega)).mono ?_
  intro e w10 h
  obtain ⟨A10, c10, ps, rfl, _, _, _, hb10⟩ := h.at hi_all (m := 1) rfl
  have hbA := hb9.trans (hb10.mono hb9.size)
  have hfbA := hfb5.on hbA
  have hpA := hp5.on hbA
  have hbB := bthen hb5' hbA
  clear hb9 hb10 hbA hfb5 hp5 hb5' hf9 h
  have hcv := conv_sees' w10 _ A2 2 c2 hi hpA.sees
  obtain ⟨g, off, u0, rfl, _, _, hu0, e0, _⟩ := hfbA.at_ (k := 0) (by omega)
  obtain ⟨g1, off1, u1, hA1, _, _, hu1, e1, _⟩ := hfbA.at_ (k := 1) (by omega)
  obtain ⟨g2, off2, u2, hA2, _, _, hu2, e2, _⟩ := hfbA.at_ (k := 2) (by omega)
  obtain ⟨g3, off3, u3, hA3, _, _, hu3, e3, _⟩ := hfbA.at_ (k := 3) (by omega)
  injection hA1 with hA1
  injection hA1 with q1 q2
  subst q1
  subst q2
  injection hA2 with hA2
  injection hA2 with q1 q2
  subst q1
  subst q2
  injection hA3 with hA3
  injection hA3 with q1 q2
  subst q1
  subst q2
  have hv0 : Value.int .u8 0 = u0 := by injection hu0
  have hv1 : Value.int .u8 2 = u1 := by injection hu1
  have hv2 : Value.int .u8 255 = u2 := by injection hu2
  have hv3 : Value.int .u8 253 = u3 := by injection hu3
  subst hv0
  subst hv1
  subst hv2
  subst hv3
  rw [Nat.add_zero] at e0
  clear hu0 hu1 hu2 hu3 hfbA hpA
  have hz10 := fun W => size_any 2 W (by omega)
  have hzm := fun W => size_any (-1) W (by omega)
  go_wp2_with (go_at_call 50; first | (refine (hz10 _).mono ?_; rintro e w' ⟨rfl, rfl⟩) | (refine (hzm _).mono ?_; rintro e w' ⟨rfl, rfl⟩))
  go_ret
  exact ⟨rfl, hbB⟩
end Go.Proofs.Ytnbkphdkpncjfaa
