/- The walks of the document's own Put and Take (kissinggateref03), and of frame.Put. -/
import Derived.Test.YtjmpokaifnhnmaaF2
namespace Go.Proofs.Ytjmpokaifnhnmaa
open Go.RowKit

/-- what Put answers: just these bytes -/
def Bytes (w : World) (l : List UInt8) (e : Ending) (w' : World) : Prop :=
  ∃ A c, e = .returned (.slice A l.length c) ∧ Free w' w.heap.size 5 A l.length c (cbs l) ∧ Below w.heap.size w w'

theorem hd_free (n : Nat) (w : World) : Free (w.alloc (.cells #[Value.int .u8 ((n : Int) / 256 % 256), Value.int .u8 ((n : Int) % 256), Value.int .u8 (255 - (n : Int) / 256 % 256), Value.int .u8 (255 - (n : Int) % 256)] 5)) w.heap.size 5 (some ⟨w.heap.size, 0, none⟩) 4 4 (cbs (hd n)) := by
  rw [← hd_cells n]
  exact free_new w (cbs (hd n)).toArray 5 (by show 4 ≤ maxLen; decide)

set_option maxRecDepth 100000 in
set_option maxHeartbeats 800000 in
/-- kissinggateref03.Put -/
theorem refPut_any (A : Option Addr) (n c : Nat) (l : List UInt8) (B : Nat) (w : World) (hs : Sees w B A n (cbs l)) (hB : B ≤ w.heap.size) (hn : n ≤ 70368744177664) :
    Calls Try.prog 28 #[.slice A n c] w (Bytes w (frameOf l)) := by
  have hlen : l.length = n := by have := hs.1; simpa using this
  have hfl := frameOf_length l
  have hfe : frameOf l = (hd n ++ l) ++ le4 (crcOf l) := by unfold frameOf; rw [hlen, List.append_assoc]
  rw [hlen] at hfl
  have hcr := crc_lt l
  have HF := Lib.hid hfl
  have HE := Lib.hid hfe
  clear hfl hfe
  obtain ⟨i0, hi0, hz0, hz1, hz2⟩ := info_parts u8_row
  have hf0 := hd_free n w
  have hb0 := (Below.refl w.heap.size w).alloc (Nat.le_refl _) (.cells #[Value.int .u8 ((n : Int) / 256 % 256), Value.int .u8 ((n : Int) % 256), Value.int .u8 (255 - (n : Int) / 256 % 256), Value.int .u8 (255 - (n : Int) % 256)] 5)
  have hs0 := hs.alloc hB (.cells #[Value.int .u8 ((n : Int) / 256 % 256), Value.int .u8 ((n : Int) % 256), Value.int .u8 (255 - (n : Int) / 256 % 256), Value.int .u8 (255 - (n : Int) % 256)] 5)
  have hm1 : 4 + n ≤ maxLen := by unfold maxLen; omega
  have hm2 : (4 + n) * 1 ≤ 140737488355328 := by omega
  have hm3 : 4 + n + 4 ≤ maxLen := by unfold maxLen; omega
  have hm4 : (4 + n + 4) * 1 ≤ 140737488355328 := by omega
  have hsz0 := hb0.size
  go_enter Try.func28, Try.ntmps28
  go_wp2_with (at_builtin; refine wpList_append_free _ rfl (.tmp 20) (.tmp 21) _ rfl w.heap.size 5 i0 _ 1 sl_u8 hi0 hz0 hz1 hz2 rfl _ 4 4 (cbs (hd n)) rfl hf0 (cbs_one _) B A n c (cbs l) rfl hs0 (cbs_one l) hm1 hm2 hsz0 ?_
               intro A1 c1 w1 ha
               have hf1 := ha.1
               have hb1 := ha.below hf0 hb0 hsz0 (Nat.le_refl _)
               have hs1 : Sees w1 B A n (cbs l) := hs.keep (fun p hp => hb1.cell (by omega))
               clear ha hf0 hb0 hs0)
  have hn63 : n ≤ 9223372036854775807 := by omega
  refine (refOf_any A n c l B w1 hs1 hn63).mono ?_
  rintro e w1 ⟨rfl, rfl⟩
  go_wp2_with fail
  refine (refBytes_any (crcOf l) w1 hcr).mono ?_
  rintro e w2 ⟨rfl, rfl⟩
  have hs2 := le4_sees w1 (crcOf l)
  have hf2 := hf1.alloc (.cells (cbs (le4 (crcOf l))).toArray 5)
  have hb2 := hb1.alloc hb1.size (.cells (cbs (le4 (crcOf l))).toArray 5)
  have hz2' := hb2.size
  clear hf1 hb1 hs1
  generalize w1.alloc (.cells (cbs (le4 (crcOf l))).toArray 5) = w2 at *
  rw [← cbs_append] at hf2
  go_wp2_with (at_builtin; refine wpList_append_free _ rfl (.tmp 23) (.tmp 26) _ rfl w.heap.size 5 i0 _ 1 sl_u8 hi0 hz0 hz1 hz2 rfl A1 (4 + n) c1 (cbs (hd n ++ l)) rfl hf2 (cbs_one _) _ _ 4 4 (cbs (le4 (crcOf l))) rfl hs2 (cbs_one _) hm3 hm4 hz2' ?_
               intro A3 c3 w3 ha
               have hf3 := ha.1
               have hb3 := ha.below hf2 hb2 hz2' (Nat.le_refl _)
               clear ha hf2 hb2 hs2)
  go_ret
  rw [← cbs_append, ← HE.out] at hf3
  have hfl := HF.out
  have e8 : 4 + n + 4 = n + 8 := by omega
  rw [e8] at hf3
  exact ⟨A3, c3, by simp only [hfl]; exact congrArg (fun k => Ending.returned (.slice A3 k c3)) e8, by simp only [hfl]; exact hf3, hb3⟩

/-- what Put answers, where the payload isn't too long -/
def PutRet (w : World) (l : List UInt8) (e : Ending) (w' : World) : Prop :=
  ∃ A c, e = .returned (.tuple #[.slice A l.length c, .int .i64 0]) ∧ Free w' w.heap.size 5 A l.length c (cbs l) ∧ Below w.heap.size w w'

set_option maxRecDepth 100000 in
set_option maxHeartbeats 400000 in
/-- frame.Put, of a payload that is too long -/
theorem put_long (v : Value) (A : Option Addr) (n c : Nat) (w : World) (hn : 4096 < n) :
    Calls Try.prog 26 #[v, .slice A n c] w fun e w' => e = .returned (.tuple #[.slice none 0 0, .int .i64 4]) ∧ w' = w := by
  have hn' : (4096 : Int) < (n : Int) := by omega
  go_enter Try.func26, Try.ntmps26
  go_wp2_with fail
  go_ret2
  exact ⟨rfl, rfl⟩

set_option maxRecDepth 100000 in
set_option maxHeartbeats 800000 in
/-- frame.Put -/
theorem put_any (A0 : Option Addr) (n0 c0 : Nat) (l0 : List UInt8) (A : Option Addr) (n c : Nat) (l : List UInt8) (w : World) (hs0 : Sees w w.heap.size A0 n0 (cbs l0)) (hs : Sees w w.heap.size A n (cbs l)) (hn : n ≤ 4096) (hn0 : n0 ≤ 70368744177664) :
    Calls Try.prog 26 #[.slice A0 n0 c0, .slice A n c] w (PutRet w (l0 ++ frameOf l)) := by
  have hlen : l.length = n := by have := hs.1; simpa using this
  have hlen0 : l0.length = n0 := by have := hs0.1; simpa using this
  have hfe : l0 ++ frameOf l = l0 ++ (hd n ++ (l ++ le4 (crcOf l))) := by unfold frameOf; rw [hlen]
  have hcr := crc_lt l
  have HE := Lib.hid hfe
  have HLEN := Lib.hid hlen
  have HLEN0 := Lib.hid hlen0
  clear hfe hlen hlen0
  have hn' : ¬ (4096 : Int) < (n : Int) := by omega
  go_enter Try.func26, Try.ntmps26
  go_wp2_with fail
  refine (head_any n w (by omega)).mono ?_
  rintro e w1 ⟨rfl, rfl⟩
  have hh1 := sees_new w (cbs (hd n)).toArray 5
  have hs1 := hs.past (.cells (cbs (hd n)).toArray 5)
  have hs01 := hs0.past (.cells (cbs (hd n)).toArray 5)
  have hb1 := (Below.refl w.heap.size w).alloc (Nat.le_refl _) (.cells (cbs (hd n)).toArray 5)
  generalize hg0 : w.heap.size = g0 at *
  generalize w.alloc (.cells (cbs (hd n)).toArray 5) = w1 at *
  go_wp2_with fail
  refine (of_any A n c l w1.heap.size w1 hs1 (by omega)).mono ?_
  rintro e w1 ⟨rfl, rfl⟩
  go_wp2_with fail
  refine (bytes_any (crcOf l) w1 hcr).mono ?_
  rintro e w2 ⟨rfl, rfl⟩
  have hc2 := le4_sees w1 (crcOf l)
  have hh2 := hh1.past (.cells (cbs (le4 (crcOf l))).toArray 5)
  have hs2 := hs1.past (.cells (cbs (le4 (crcOf l))).toArray 5)
  have hs02 := hs01.past (.cells (cbs (le4 (crcOf l))).toArray 5)
  have hb2 := hb1.alloc (B := g0) (by have := hb1.size; omega) (.cells (cbs (le4 (crcOf l))).toArray 5)
  clear hh1 hs1 hs01 hb1
  generalize hg1 : w1.heap.size = g1 at *
  generalize w1.alloc (.cells (cbs (le4 (crcOf l))).toArray 5) = w2 at *
  go_wp2_with fail
  refine (concat_any _ 4 4 [⟨A0, n0, c0, l0⟩, ⟨some ⟨g0, 0, none⟩, 4, 4, hd n⟩, ⟨A, n, c, l⟩, ⟨some ⟨g1, 0, none⟩, 4, 4, le4 (crcOf l)⟩] _ (sees_new w2 _ _) ?_ ?_ (by omega)).mono ?_
  · intro p hp
    simp only [List.mem_cons, List.not_mem_nil, or_false] at hp
    rcases hp with rfl | rfl | rfl | rfl
    · exact hs02.past _
    · exact hh2.past _
    · exact hs2.past _
    · exact hc2.past _
  · have h1 := HLEN.out
    have h2 := HLEN0.out
    simp [cat, hd_length, le4_length]
    omega
  rintro e w3 ⟨v, rfl, hown, hb3⟩
  obtain ⟨A3, c3, rfl, _, _⟩ := own_form hown
  have hcat : cat [⟨A0, n0, c0, l0⟩, ⟨some ⟨g0, 0, none⟩, 4, 4, hd n⟩, ⟨A, n, c, l⟩, ⟨some ⟨g1, 0, none⟩, 4, 4, le4 (crcOf l)⟩] = l0 ++ frameOf l := by rw [HE.out]; simp [cat]
  rw [hcat] at hown ⊢
  clear hcat
  generalize l0 ++ frameOf l = L at *
  have hbz := hb2.size
  go_wp2_with fail
  go_ret2
  subst hg0
  exact ⟨A3, c3, rfl, (Free.of_own hown).mono (by simp; omega), (hb2.alloc (by omega) _).trans (hb3.mono (by simp; omega))⟩

theorem w64_in (z : Int) (h1 : -9223372036854775808 ≤ z) (h2 : z < 9223372036854775808) : wrap64 z = z := by unfold wrap64; omega
theorem sum_cell (x y : UInt8) : (((x.toNat : Int) + (y.toNat : Int)) % 256 == 255) = decide (x + y = 255) := by
  have hx := UInt8.toNat_lt x
  have hy := UInt8.toNat_lt y
  rw [Bool.eq_iff_iff, beq_iff_eq, decide_eq_true_iff, ← UInt8.toNat_inj, UInt8.toNat_add]
  have : (255 : UInt8).toNat = 255 := rfl
  rw [this]
  omega
/-- the bytes at the beginning are the payload's frame just if the sum behind is the payload's -/
theorem frame_same {b : List UInt8} (h : (lenF b).2 = 0) (hl : (lenF b).1 + 8 ≤ b.length) :
    (frameOf ((b.drop 4).take (lenF b).1) = b.take ((lenF b).1 + 8)) ↔ le4 (crcOf ((b.drop 4).take (lenF b).1)) = (b.drop (4 + (lenF b).1)).take 4 := by
  have h4 := lenF_head h
  generalize (lenF b).1 = N at *
  have hpl : ((b.drop 4).take N).length = N := by rw [List.length_take, List.length_drop]; omega
  have e : b.take (N + 8) = hd N ++ ((b.drop 4).take N ++ (b.drop (4 + N)).take 4) := by
    rw [← h4, show N + 8 = 4 + (N + 4) from by omega, List.take_add, List.take_add (i := N), List.drop_drop]
  rw [e]
  unfold frameOf
  rw [hpl]
  constructor
  · intro h
    exact List.append_cancel_left (List.append_cancel_left h)
  · intro h
    rw [h]
end Go.Proofs.Ytjmpokaifnhnmaa
