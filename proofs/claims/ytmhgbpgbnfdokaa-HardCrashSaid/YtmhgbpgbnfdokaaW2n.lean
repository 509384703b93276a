/- The walks of package word's Int and Text once more: what they answer lies in memory of their own. -/
import Derived.Test.YtmhgbpgbnfdokaaW2
import Derived.Test.YtmhgbpgbnfdokaaFree
namespace Go.Proofs.Ytmhgbpgbnfdokaa
open Go.RowKit

/-- a slice of just these bytes is handed back, in new memory -/
def RetFree (w : World) (l : List UInt8) (e : Ending) (w' : World) : Prop :=
  ∃ A c, e = .returned (.slice A l.length c) ∧ Free w' w.heap.size 5 A l.length c (cbs l) ∧ Below w.heap.size w w'

set_option maxRecDepth 100000 in
set_option maxHeartbeats 400000 in
/-- word.Int -/
theorem int_new (A : Option Addr) (n c : Nat) (l : List UInt8) (m : Int) (w : World) (hs : Sees w w.heap.size A n (cbs l)) (hn : n ≤ 1073741824) :
    Calls Try.prog 69 #[.slice A n c, .int .i64 m] w (RetFree w (l ++ be (u64n m) 8)) := by
  have hw := u64n_wrap m
  have hlt := u64n_lt m
  generalize u64n m = N at *
  have HL := Lib.hid hlt
  clear hlt
  go_enter Try.func69, Try.ntmps69
  go_wp2_with fail
  refine (highestFirst_any N 8 _ HL.out (by omega)).mono ?_
  rintro e w1 ⟨g, rfl, hs1, hb1⟩
  clear hw
  go_wp2_with fail
  refine (concat_any _ 2 2 [⟨A, n, c, l⟩, ⟨some ⟨g, 0, none⟩, 8, 8, be N 8⟩] _ (sees_new w1 _ _) ?_ ?_ (by omega)).mono ?_
  · intro p hp
    simp only [List.mem_cons, List.not_mem_nil, or_false] at hp
    rcases hp with rfl | rfl
    · exact (hs.on hb1).past _
    · exact hs1.past _
  · have hl : l.length = n := by have := hs.1; simpa using this
    simp [cat]
    omega
  rintro e w2 ⟨v, rfl, hown, hb2⟩
  have hcat : cat [⟨A, n, c, l⟩, ⟨some ⟨g, 0, none⟩, 8, 8, be N 8⟩] = l ++ be N 8 := by simp [cat]
  rw [hcat] at hown
  obtain ⟨A', c', rfl, _, _⟩ := own_form hown
  generalize hNN : (l ++ be N 8).length = M at *
  have HNN := Lib.hid hNN
  have HOWN := Lib.hid hown
  clear hown hNN
  go_wp2_with fail
  go_ret
  have hf := (Free.of_own HOWN.out).mono (base' := w.heap.size) (by simp; have := hb1.size; omega)
  have hNN := HNN.out
  exact ⟨A', c', (by rw [hNN]; rfl), (by rw [hNN]; exact hf), (hb1.alloc hb1.size _).trans (hb2.mono (by simp; have := hb1.size; omega))⟩

set_option maxRecDepth 100000 in
set_option maxHeartbeats 800000 in
/-- word.Text, of a text that is not too long for its count -/
theorem text_new (A : Option Addr) (n c : Nat) (l : List UInt8) (s : ByteArray) (w : World) (hs : Sees w w.heap.size A n (cbs l)) (hn : n ≤ 1073741824) (hz : s.size ≤ 65535) :
    Calls Try.prog 70 #[.slice A n c, .string s] w (RetFree w (l ++ textBytes s)) := by
  have hcv := fun W => Lib.run_convert_string_bytes (P := Try.prog) W 9 27 5 s Try.underlying9 sl_u8 Try.underlying5
  have hnot : ¬ (65535 : Int) < (s.size : Int) := by omega
  go_enter Try.func70, Try.ntmps70
  go_wp2_with fail
  refine (highestFirst_any s.size 2 _ (by omega) (by omega)).mono ?_
  rintro e w1 ⟨g, rfl, hs1, hb1⟩
  go_wp2_with fail
  clear hcv
  refine (concat_any _ 3 3 [⟨A, n, c, l⟩, ⟨some ⟨g, 0, none⟩, 2, 2, be s.size 2⟩, ⟨some ⟨w1.heap.size, 0, none⟩, s.size, grownCap w1 s.size 0 5, s.data.toList⟩] _ (sees_new (Lib.bytesWorld w1 5 s) _ _) ?_ ?_ (by omega)).mono ?_
  · intro p hp
    simp only [List.mem_cons, List.not_mem_nil, or_false] at hp
    rcases hp with rfl | rfl | rfl
    · exact ((hs.on hb1).on (below_text w1 s)).past _
    · exact (hs1.on (below_text w1 s)).past _
    · exact (sees_text w1 s).past _
  · have hl : l.length = n := by have := hs.1; simpa using this
    simp only [cat, List.flatMap_cons, List.flatMap_nil, List.append_nil, List.length_append, be_length, text_len]
    omega
  rintro e w2 ⟨v, rfl, hown, hb2⟩
  have hcat : cat [⟨A, n, c, l⟩, ⟨some ⟨g, 0, none⟩, 2, 2, be s.size 2⟩, ⟨some ⟨w1.heap.size, 0, none⟩, s.size, grownCap w1 s.size 0 5, s.data.toList⟩] = l ++ textBytes s := by
    unfold textBytes
    rw [Nat.min_eq_left hz, List.take_of_length_le (by rw [text_len]; exact hz)]
    simp [cat]
  rw [hcat] at hown
  obtain ⟨A', c', rfl, _, _⟩ := own_form hown
  generalize hNN : (l ++ textBytes s).length = M at *
  have HNN := Lib.hid hNN
  have HOWN := Lib.hid hown
  clear hown hcat hNN
  go_wp2_with fail
  go_ret
  have hf := (Free.of_own HOWN.out).mono (base' := w.heap.size) (by simp only [World.size_alloc, Lib.bytesWorld_size]; have := hb1.size; omega)
  have hNN := HNN.out
  refine ⟨A', c', (by rw [hNN]; rfl), (by rw [hNN]; exact hf), ((hb1.trans ((below_text w1 s).mono hb1.size)).alloc ?_ _).trans (hb2.mono ?_)⟩
  · rw [Lib.bytesWorld_size]; have := hb1.size; omega
  · simp only [World.size_alloc, Lib.bytesWorld_size]; have := hb1.size; omega
end Go.Proofs.Ytmhgbpgbnfdokaa
