/- The walks of the document's own Put and Take (kissinggateref03), and of frame.Put. -/
import Derived.Test.YtmhgbpgbnfdokaaF2
namespace Go.Proofs.Ytmhgbpgbnfdokaa
open Go.RowKit

/-- what Put answers: just these bytes -/
def Bytes (w : World) (l : List UInt8) (e : Ending) (w' : World) : Prop :=
  ∃ A c, e = .returned (.slice A l.length c) ∧ Free w' w.heap.size 5 A l.length c (cbs l) ∧ Below w.heap.size w w'

theorem hd_free (n : Nat) (w : World) : Free (w.alloc (.cells #[Value.int .u8 ((n : Int) / 256 % 256), Value.int .u8 ((n : Int) % 256), Value.int .u8 (255 - (n : Int) / 256 % 256), Value.int .u8 (255 - (n : Int) % 256)] 5)) w.heap.size 5 (some ⟨w.heap.size, 0, none⟩) 4 4 (cbs (hd n)) := by
  rw [← hd_cells n]
  exact free_new w (cbs (hd n)).toArray 5 (by show 4 ≤ maxLen; decide)

/-- what Put answers, where the payload isn't too long -/
def PutRet (w : World) (l : List UInt8) (e : Ending) (w' : World) : Prop :=
  ∃ A c, e = .returned (.tuple #[.slice A l.length c, .int .i64 0]) ∧ Free w' w.heap.size 5 A l.length c (cbs l) ∧ Below w.heap.size w w'

set_option maxRecDepth 100000 in
set_option maxHeartbeats 400000 in
/-- frame.Put, of a payload that is too long -/
theorem put_long (v : Value) (A : Option Addr) (n c : Nat) (w : World) (hn : 4096 < n) :
    Calls Try.prog 99 #[v, .slice A n c] w fun e w' => e = .returned (.tuple #[.slice none 0 0, .int .i64 4]) ∧ w' = w := by
  have hn' : (4096 : Int) < (n : Int) := by omega
  go_enter Try.func99, Try.ntmps99
  go_wp2_with fail
  go_ret2
  exact ⟨rfl, rfl⟩

set_option maxRecDepth 100000 in
set_option maxHeartbeats 800000 in
/-- frame.Put -/
theorem put_any (A0 : Option Addr) (n0 c0 : Nat) (l0 : List UInt8) (A : Option Addr) (n c : Nat) (l : List UInt8) (w : World) (hs0 : Sees w w.heap.size A0 n0 (cbs l0)) (hs : Sees w w.heap.size A n (cbs l)) (hn : n ≤ 4096) (hn0 : n0 ≤ 70368744177664) :
    Calls Try.prog 99 #[.slice A0 n0 c0, .slice A n c] w (PutRet w (l0 ++ frameOf l)) := by
  have hlen : l.length = n := by have := hs.1; simpa using this
  have hlen0 : l0.length = n0 := by have := hs0.1; simpa using this
  have hfe : l0 ++ frameOf l = l0 ++ (hd n ++ (l ++ le4 (crcOf l))) := by unfold frameOf; rw [hlen]
  have hcr := crc_lt l
  have HE := Lib.hid hfe
  have HLEN := Lib.hid hlen
  have HLEN0 := Lib.hid hlen0
  clear hfe hlen hlen0
  have hn' : ¬ (4096 : Int) < (n : Int) := by omega
  go_enter Try.func99, Try.ntmps99
  go_wp2_with fail
  refine (head_any n w (by omega)).mono ?_
  rintro e w1 ⟨rfl, rfl⟩
  have hh1 := sees_new w (cbs (hd n)).toArray 5
  have hs1 := hs.past (.cells (cbs (hd n)).toArray 5)
  have hs01 := hs0.past (.cells (cbs (hd n)).toArray 5)
  have hb1 := (Below.refl w.heap.size w).alloc (Nat.le_refl _) (.cells (cbs (hd n)).toArray 5)
  generalize hg0 : w.heap.size = g0 at *
  generalize w.alloc (.cells (cbs (hd n)).toArray 5) = w1 at *
  go_wp2_with fail
  refine (of_any A n c l w1.heap.size w1 hs1 (by omega)).mono ?_
  rintro e w1 ⟨rfl, rfl⟩
  go_wp2_with fail
  refine (bytes_any (crcOf l) w1 hcr).mono ?_
  rintro e w2 ⟨rfl, rfl⟩
  have hc2 := le4_sees w1 (crcOf l)
  have hh2 := hh1.past (.cells (cbs (le4 (crcOf l))).toArray 5)
  have hs2 := hs1.past (.cells (cbs (le4 (crcOf l))).toArray 5)
  have hs02 := hs01.past (.cells (cbs (le4 (crcOf l))).toArray 5)
  have hb2 := hb1.alloc (B := g0) (by have := hb1.size; omega) (.cells (cbs (le4 (crcOf l))).toArray 5)
  clear hh1 hs1 hs01 hb1
  generalize hg1 : w1.heap.size = g1 at *
  generalize w1.alloc (.cells (cbs (le4 (crcOf l))).toArray 5) = w2 at *
  go_wp2_with fail
  refine (concat_any _ 4 4 [⟨A0, n0, c0, l0⟩, ⟨some ⟨g0, 0, none⟩, 4, 4, hd n⟩, ⟨A, n, c, l⟩, ⟨some ⟨g1, 0, none⟩, 4, 4, le4 (crcOf l)⟩] _ (sees_new w2 _ _) ?_ ?_ (by omega)).mono ?_
  · intro p hp
    simp only [List.mem_cons, List.not_mem_nil, or_false] at hp
    rcases hp with rfl | rfl | rfl | rfl
    · exact hs02.past _
    · exact hh2.past _
    · exact hs2.past _
    · exact hc2.past _
  · have h1 := HLEN.out
    have h2 := HLEN0.out
    simp [cat, hd_length, le4_length]
    omega
  rintro e w3 ⟨v, rfl, hown, hb3⟩
  obtain ⟨A3, c3, rfl, _, _⟩ := own_form hown
  have hcat : cat [⟨A0, n0, c0, l0⟩, ⟨some ⟨g0, 0, none⟩, 4, 4, hd n⟩, ⟨A, n, c, l⟩, ⟨some ⟨g1, 0, none⟩, 4, 4, le4 (crcOf l)⟩] = l0 ++ frameOf l := by rw [HE.out]; simp [cat]
  rw [hcat] at hown ⊢
  clear hcat
  generalize l0 ++ frameOf l = L at *
  have hbz := hb2.size
  go_wp2_with fail
  go_ret2
  subst hg0
  exact ⟨A3, c3, rfl, (Free.of_own hown).mono (by simp; omega), (hb2.alloc (by omega) _).trans (hb3.mono (by simp; omega))⟩

theorem w64_in (z : Int) (h1 : -9223372036854775808 ≤ z) (h2 : z < 9223372036854775808) : wrap64 z = z := by unfold wrap64; omega
theorem sum_cell (x y : UInt8) : (((x.toNat : Int) + (y.toNat : Int)) % 256 == 255) = decide (x + y = 255) := by
  have hx := UInt8.toNat_lt x
  have hy := UInt8.toNat_lt y
  rw [Bool.eq_iff_iff, beq_iff_eq, decide_eq_true_iff, ← UInt8.toNat_inj, UInt8.toNat_add]
  have : (255 : UInt8).toNat = 255 := rfl
  rw [this]
  omega
/-- the bytes at the beginning are the payload's frame just if the sum behind is the payload's -/
theorem frame_same {b : List UInt8} (h : (lenF b).2 = 0) (hl : (lenF b).1 + 8 ≤ b.length) :
    (frameOf ((b.drop 4).take (lenF b).1) = b.take ((lenF b).1 + 8)) ↔ le4 (crcOf ((b.drop 4).take (lenF b).1)) = (b.drop (4 + (lenF b).1)).take 4 := by
  have h4 := lenF_head h
  generalize (lenF b).1 = N at *
  have hpl : ((b.drop 4).take N).length = N := by rw [List.length_take, List.length_drop]; omega
  have e : b.take (N + 8) = hd N ++ ((b.drop 4).take N ++ (b.drop (4 + N)).take 4) := by
    rw [← h4, show N + 8 = 4 + (N + 4) from by omega, List.take_add, List.take_add (i := N), List.drop_drop]
  rw [e]
  unfold frameOf
  rw [hpl]
  constructor
  · intro h
    exact List.append_cancel_left (List.append_cancel_left h)
  · intro h
    rw [h]
end Go.Proofs.Ytmhgbpgbnfdokaa
