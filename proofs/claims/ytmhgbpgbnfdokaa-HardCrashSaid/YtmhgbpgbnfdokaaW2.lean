/- The walks of package word's Int, Text, Bool, and of the document's own (kissinggateref01). -/
import Derived.Test.YtmhgbpgbnfdokaaW1
import Derived.Lib.ConvBytes
import Derived.Laws.IdiomStrings
namespace Go.Proofs.Ytmhgbpgbnfdokaa
open Go.RowKit

/-- a slice of just these bytes is handed back; what was there is as it was -/
def RetBytes (w : World) (l : List UInt8) (e : Ending) (w' : World) : Prop :=
  ∃ A c, e = .returned (.slice A l.length c) ∧ Sees w' w'.heap.size A l.length (cbs l) ∧ l.length ≤ c ∧ c ≤ maxLen ∧ Below w.heap.size w w'

/-- an int as the number modulo 2^64 -/
def u64n (m : Int) : Nat := (m % 18446744073709551616).toNat
theorem u64n_lt (m : Int) : u64n m < 18446744073709551616 := by unfold u64n; omega
theorem u64n_wrap (m : Int) : IntKind.u64.wrap m = (u64n m : Int) := by rw [IntKind.wrap_u64]; unfold u64n; omega

set_option maxRecDepth 100000 in
set_option maxHeartbeats 400000 in
/-- word.Int -/
theorem int_any (A : Option Addr) (n c : Nat) (l : List UInt8) (m : Int) (w : World) (hs : Sees w w.heap.size A n (cbs l)) (hn : n ≤ 1073741824) :
    Calls Try.prog 69 #[.slice A n c, .int .i64 m] w (RetBytes w (l ++ be (u64n m) 8)) := by
  have hw := u64n_wrap m
  have hlt := u64n_lt m
  generalize u64n m = N at *
  have HL := Lib.hid hlt
  clear hlt
  go_enter Try.func69, Try.ntmps69
  go_wp2_with fail
  refine (highestFirst_any N 8 _ HL.out (by omega)).mono ?_
  rintro e w1 ⟨g, rfl, hs1, hb1⟩
  clear hw
  go_wp2_with fail
  refine (concat_sees _ 2 2 [⟨A, n, c, l⟩, ⟨some ⟨g, 0, none⟩, 8, 8, be N 8⟩] _ (sees_new w1 _ _) ?_ ?_ (by omega)).mono ?_
  · intro p hp
    simp only [List.mem_cons, List.not_mem_nil, or_false] at hp
    rcases hp with rfl | rfl
    · exact (hs.on hb1).past _
    · exact hs1.past _
  · have hl : l.length = n := by have := hs.1; simpa using this
    simp [cat]
    omega
  rintro e w2 ⟨A', c', rfl, hs2, h1, h2, hb2⟩
  go_wp2_with fail
  go_ret
  have hcat : cat [⟨A, n, c, l⟩, ⟨some ⟨g, 0, none⟩, 8, 8, be N 8⟩] = l ++ be N 8 := by simp [cat]
  rw [hcat] at hs2 h1
  exact ⟨A', c', by rw [hcat]; rfl, hs2, h1, h2, (hb1.alloc hb1.size _).trans (hb2.mono (by simp; have := hb1.size; omega))⟩

/-! ### '[]byte(s)' -/
theorem sees_text (w : World) (s : ByteArray) : Sees (Lib.bytesWorld w 5 s) (Lib.bytesWorld w 5 s).heap.size (some ⟨w.heap.size, 0, none⟩) s.size (cbs s.data.toList) := by
  refine ⟨by rw [cbs_length, text_len], fun _ => ⟨w.heap.size, 0, rfl, by rw [Lib.bytesWorld_size]; omega, fun j u hu => ?_⟩⟩
  rw [cbs_get] at hu
  rcases hj : s.data.toList[j]? with _ | x
  · rw [hj] at hu
    cases hu
  · rw [hj] at hu
    simp only [Option.map_some, Option.some.injEq] at hu
    subst hu
    have hlt : j < s.size := by have := (List.getElem?_eq_some_iff.1 hj).1; rwa [text_len] at this
    rw [Nat.zero_add, Lib.bytesWorld_cell w _ s j hlt, List.getD_eq_getElem?_getD, hj]
    rfl
theorem below_text (w : World) (s : ByteArray) : Below w.heap.size w (Lib.bytesWorld w 5 s) :=
  ⟨rfl, rfl, rfl, by rw [Lib.bytesWorld_size]; omega, fun k hk => Lib.bytesWorld_at_old w _ s k hk⟩

/-- what Text puts behind: the count of two bytes, and so many bytes -/
def textBytes (s : ByteArray) : List UInt8 := be (min s.size 65535) 2 ++ s.data.toList.take 65535

set_option maxRecDepth 100000 in
set_option maxHeartbeats 800000 in
/-- word.Text, of a text that is not too long for its count -/
theorem text_short (A : Option Addr) (n c : Nat) (l : List UInt8) (s : ByteArray) (w : World) (hs : Sees w w.heap.size A n (cbs l)) (hn : n ≤ 1073741824) (hz : s.size ≤ 65535) :
    Calls Try.prog 70 #[.slice A n c, .string s] w (RetBytes w (l ++ textBytes s)) := by
  have hcv := fun W => Lib.run_convert_string_bytes (P := Try.prog) W 9 27 5 s Try.underlying9 sl_u8 Try.underlying5
  have hnot : ¬ (65535 : Int) < (s.size : Int) := by omega
  go_enter Try.func70, Try.ntmps70
  go_wp2_with fail
  refine (highestFirst_any s.size 2 _ (by omega) (by omega)).mono ?_
  rintro e w1 ⟨g, rfl, hs1, hb1⟩
  go_wp2_with fail
  clear hcv
  refine (concat_sees _ 3 3 [⟨A, n, c, l⟩, ⟨some ⟨g, 0, none⟩, 2, 2, be s.size 2⟩, ⟨some ⟨w1.heap.size, 0, none⟩, s.size, grownCap w1 s.size 0 5, s.data.toList⟩] _ (sees_new (Lib.bytesWorld w1 5 s) _ _) ?_ ?_ (by omega)).mono ?_
  · intro p hp
    simp only [List.mem_cons, List.not_mem_nil, or_false] at hp
    rcases hp with rfl | rfl | rfl
    · exact ((hs.on hb1).on (below_text w1 s)).past _
    · exact (hs1.on (below_text w1 s)).past _
    · exact (sees_text w1 s).past _
  · have hl : l.length = n := by have := hs.1; simpa using this
    simp only [cat, List.flatMap_cons, List.flatMap_nil, List.append_nil, List.length_append, be_length, text_len]
    omega
  rintro e w2 ⟨A', c', rfl, hs2, h1, h2, hb2⟩
  go_wp2_with fail
  go_ret
  have hcat : cat [⟨A, n, c, l⟩, ⟨some ⟨g, 0, none⟩, 2, 2, be s.size 2⟩, ⟨some ⟨w1.heap.size, 0, none⟩, s.size, grownCap w1 s.size 0 5, s.data.toList⟩] = l ++ textBytes s := by
    unfold textBytes
    rw [Nat.min_eq_left hz, List.take_of_length_le (by rw [text_len]; exact hz)]
    simp [cat]
  rw [hcat] at hs2 h1
  refine ⟨A', c', by rw [hcat]; rfl, hs2, h1, h2, ((hb1.trans ((below_text w1 s).mono hb1.size)).alloc ?_ _).trans (hb2.mono ?_)⟩
  · rw [Lib.bytesWorld_size]; have := hb1.size; omega
  · simp only [World.size_alloc, Lib.bytesWorld_size]; have := hb1.size; omega

set_option maxRecDepth 100000 in
set_option maxHeartbeats 800000 in
/-- word.Text, of a text that is too long for its count -/
theorem text_long (A : Option Addr) (n c : Nat) (l : List UInt8) (s : ByteArray) (w : World) (hs : Sees w w.heap.size A n (cbs l)) (hn : n ≤ 1073741824) (hz : 65535 < s.size) :
    Calls Try.prog 70 #[.slice A n c, .string s] w (RetBytes w (l ++ textBytes s)) := by
  have hcv := fun W s => Lib.run_convert_string_bytes (P := Try.prog) W 9 27 5 s Try.underlying9 sl_u8 Try.underlying5
  have hnot : (65535 : Int) < (s.size : Int) := by omega
  go_enter Try.func70, Try.ntmps70
  go_wp2_with fail
  have e1 : min 65535 s.size = 65535 := Nat.min_eq_left (by omega)
  have ht2 : (s.extract 0 65535).data.toList = s.data.toList.take 65535 := by rw [ByteArray.data_extract, Array.toList_extract]; simp [List.extract]
  have ht1 : (s.extract 0 65535).size = 65535 := by rw [← text_len, ht2, List.length_take, text_len]; omega
  rw [e1]
  generalize s.extract 0 65535 = t at *
  have H1 := Lib.hid ht1
  have H2 := Lib.hid ht2
  clear ht1 ht2 e1
  refine (highestFirst_any 65535 2 _ (by omega) (by omega)).mono ?_
  rintro e w1 ⟨g, rfl, hs1, hb1⟩
  have hcv' := fun W => hcv W t
  clear hcv
  go_wp2_with fail
  clear hcv'
  have ht1 := H1.out
  have ht2 := H2.out
  refine (concat_sees _ 3 3 [⟨A, n, c, l⟩, ⟨some ⟨g, 0, none⟩, 2, 2, be 65535 2⟩, ⟨some ⟨w1.heap.size, 0, none⟩, t.size, grownCap w1 t.size 0 5, t.data.toList⟩] _ (sees_new (Lib.bytesWorld w1 5 t) _ _) ?_ ?_ (by omega)).mono ?_
  · intro p hp
    simp only [List.mem_cons, List.not_mem_nil, or_false] at hp
    rcases hp with rfl | rfl | rfl
    · exact ((hs.on hb1).on (below_text w1 t)).past _
    · exact (hs1.on (below_text w1 t)).past _
    · exact (sees_text w1 t).past _
  · have hl : l.length = n := by have := hs.1; simpa using this
    simp only [cat, List.flatMap_cons, List.flatMap_nil, List.append_nil, List.length_append, be_length, text_len]
    omega
  rintro e w2 ⟨A', c', rfl, hs2, h1, h2, hb2⟩
  clear ht1 ht2
  go_wp2_with fail
  go_ret
  have hcat : cat [⟨A, n, c, l⟩, ⟨some ⟨g, 0, none⟩, 2, 2, be 65535 2⟩, ⟨some ⟨w1.heap.size, 0, none⟩, t.size, grownCap w1 t.size 0 5, t.data.toList⟩] = l ++ textBytes s := by
    unfold textBytes
    rw [Nat.min_eq_right (by omega), H2.out]
    simp [cat]
  rw [hcat] at hs2 h1
  refine ⟨A', c', by rw [hcat]; rfl, hs2, h1, h2, ((hb1.trans ((below_text w1 t).mono hb1.size)).alloc ?_ _).trans (hb2.mono ?_)⟩
  · rw [Lib.bytesWorld_size]; have := hb1.size; omega
  · simp only [World.size_alloc, Lib.bytesWorld_size]; have := hb1.size; omega

set_option maxRecDepth 100000 in
/-- word.Text -/
theorem text_any (A : Option Addr) (n c : Nat) (l : List UInt8) (s : ByteArray) (w : World) (hs : Sees w w.heap.size A n (cbs l)) (hn : n ≤ 1073741824) :
    Calls Try.prog 70 #[.slice A n c, .string s] w (RetBytes w (l ++ textBytes s)) := by
  rcases Nat.lt_or_ge 65535 s.size with h | h
  · exact text_long A n c l s w hs hn h
  · exact text_short A n c l s w hs hn h

/-- what Bool puts behind -/
def boolBytes (b : Bool) : List UInt8 := [if b then 1 else 0]

/-! ### the document's own -/
/-- 'string(b)' of a slice that reads as bytes -/
theorem conv_sees {P : Program} (w : World) (src dst e : TypeId) (hs : P.underlying src = some (.slice e)) (he : P.underlying e = some (.int .u8)) (hd : P.underlying dst = some .string)
    (B : Nat) (A : Option Addr) (n c : Nat) (l : List UInt8) (h : Sees w B A n (cbs l)) : (convert src dst (.slice A n c)).run P w = .ok (.string ⟨l.toArray⟩) w := by
  have hl : l.length = n := by have := h.1; simpa using this
  rcases Nat.eq_zero_or_pos n with h0 | h0
  · subst h0
    have hl0 : l = [] := List.eq_nil_of_length_eq_zero hl
    subst hl0
    rcases A with _ | a
    · rw [run_convert_bytes_string w src dst e none 0 c hs he hd]
      simp [Conv.bytesToString, Sem.run_pure]
      rfl
    · exact run_convert_bytes_back w src dst e a c [] hs he hd (fun j hj => absurd hj (by simp))
  · obtain ⟨b, off, rfl, _, hc⟩ := h.2 h0
    subst hl
    refine run_convert_bytes_back w src dst e ⟨b, off, none⟩ c l hs he hd (fun j hj => ?_)
    have h1 := hc j (cb l[j]) (by rw [cbs_get, List.getElem?_eq_getElem hj]; rfl)
    unfold Addr.add
    split
    · rename_i h2
      subst h2
      exact h1
    · exact h1

/-- 'string([]byte{x})' -/
theorem conv_one {P : Program} (src dst e : TypeId) (hs : P.underlying src = some (.slice e)) (he : P.underlying e = some (.int .u8)) (hd : P.underlying dst = some .string) (w : World) (x : Int) :
    (convert src dst (.slice (some ⟨w.heap.size, 0, none⟩) 1 1)).run P (w.alloc (.cells #[.int .u8 x] e)) = .ok (.string ⟨#[UInt8.ofNat x.toNat]⟩) (w.alloc (.cells #[.int .u8 x] e)) := by
  rw [run_convert_bytes_string _ src dst e _ 1 1 hs he hd]
  have hl := run_loadCells_list (P := P) (w.alloc (.cells #[.int .u8 x] e)) ⟨w.heap.size, 0, none⟩ ([x].map (Value.int .u8)) (fun j v hj => by
    have h := (sees_new w #[.int .u8 x] e).2 (by simp)
    obtain ⟨b, off, h1, _, h2⟩ := h
    simp only [Option.some.injEq, Addr.mk.injEq] at h1
    obtain ⟨rfl, rfl, _⟩ := h1
    have := h2 j v (by simpa using hj)
    unfold Addr.add
    split
    · rename_i h3
      subst h3
      exact this
    · exact this)
  exact run_bytesToString _ _ 1 1 [x] hl
/-- 'string([]byte{x, y})' -/
theorem conv_two {P : Program} (src dst e : TypeId) (hs : P.underlying src = some (.slice e)) (he : P.underlying e = some (.int .u8)) (hd : P.underlying dst = some .string) (w : World) (x y : Int) :
    (convert src dst (.slice (some ⟨w.heap.size, 0, none⟩) 2 2)).run P (w.alloc (.cells #[.int .u8 x, .int .u8 y] e)) = .ok (.string ⟨#[UInt8.ofNat x.toNat, UInt8.ofNat y.toNat]⟩) (w.alloc (.cells #[.int .u8 x, .int .u8 y] e)) := by
  rw [run_convert_bytes_string _ src dst e _ 2 2 hs he hd]
  have hl := run_loadCells_list (P := P) (w.alloc (.cells #[.int .u8 x, .int .u8 y] e)) ⟨w.heap.size, 0, none⟩ ([x, y].map (Value.int .u8)) (fun j v hj => by
    have h := (sees_new w #[.int .u8 x, .int .u8 y] e).2 (by simp)
    obtain ⟨b, off, h1, _, h2⟩ := h
    simp only [Option.some.injEq, Addr.mk.injEq] at h1
    obtain ⟨rfl, rfl, _⟩ := h1
    have := h2 j v (by simpa using hj)
    unfold Addr.add
    split
    · rename_i h3
      subst h3
      exact this
    · exact this)
  exact run_bytesToString _ _ 2 2 [x, y] hl

theorem text_app (l m : List UInt8) : ((⟨l.toArray⟩ : ByteArray) ++ (⟨m.toArray⟩ : ByteArray)) = ⟨(l ++ m).toArray⟩ := by
  apply ByteArray.ext
  simp [ByteArray.data_append]
theorem step_byte (N k : Nat) : UInt8.ofNat (((N : Int) / 256 ^ k).tmod 256 % 256).toNat = UInt8.ofNat (N / 256 ^ k) := by
  have e : ((N : Int) / 256 ^ k) = ((N / 256 ^ k : Nat) : Int) := by simp
  rw [e]
  generalize N / 256 ^ k = M
  rw [Int.tmod_eq_emod_of_nonneg (by omega), show (((M : Int) % 256 % 256).toNat) = M % 256 from by omega]
  apply UInt8.toNat_inj.1
  simp
theorem step_rest (N k : Nat) (hN : N < 18446744073709551616) : IntKind.u64.wrap (((N : Int) / 256 ^ k).tdiv 256) = ((N / 256 ^ (k + 1) : Nat) : Int) := by
  have e : ((N : Int) / 256 ^ k) = ((N / 256 ^ k : Nat) : Int) := by simp
  have h1 : N / 256 ^ k ≤ N := Nat.div_le_self _ _
  rw [e, Nat.pow_succ, ← Nat.div_div_eq_div_mul]
  generalize N / 256 ^ k = M at *
  have h2 : ((M : Int)).tdiv 256 = ((M / 256 : Nat) : Int) := by rw [Int.tdiv_eq_ediv_of_nonneg (by omega)]; omega
  rw [h2]
  exact IntWalk.u64_in _ ⟨by omega, by omega⟩

set_option maxRecDepth 100000 in
set_option maxHeartbeats 400000 in
/-- kissinggateref01.Int -/
theorem refInt_any (m : Int) (w : World) :
    Calls Try.prog 47 #[.int .i64 m] w fun e w' => e = .returned (.string ⟨(be (u64n m) 8).toArray⟩) ∧ Below w.heap.size w w' := by
  have hw := u64n_wrap m
  have hlt := u64n_lt m
  generalize u64n m = N at *
  have HL := Lib.hid hlt
  clear hlt
  have hcv := conv_one (P := Try.prog) 27 9 5 sl_u8 Try.underlying5 Try.underlying9
  go_enter Try.func47, Try.ntmps47
  go_wp2_with fail
  clear hw
  go_loopw [3, 4, 5] (fun o u i wr => ∃ k : Nat, k ≤ 8 ∧ i = .int .i64 k ∧ u = .int .u64 ((N / 256 ^ k : Nat) : Int) ∧ o = .string ⟨(be N k).toArray⟩ ∧ Below w.heap.size w wr) (fun _ _ i _ => 8 - (intOf i).toNat)
  case atStart => exact ⟨0, Nat.zero_le _, rfl, by simp, rfl, Below.refl _ _⟩
  case round =>
    obtain ⟨k, hk, rfl, rfl, rfl, hbel⟩ := hrel
    by_cases hlt : k < 8
    · go_wp2_with fail
      go_roundw
      case rel => exact ⟨k + 1, by omega, by go_num, by rw [step_rest N k HL.out], by rw [step_byte]; exact congrArg Value.string (text_app [UInt8.ofNat (N / 256 ^ k)] (be N k)), hbel.alloc hbel.size _⟩
      case measure => simp [intOf]; omega
    · go_wp2_with fail
      go_ret
      have hk' : k = 8 := by omega
      subst hk'
      exact ⟨rfl, hbel⟩

theorem be_two (n : Nat) : be n 2 = [UInt8.ofNat (n / 256), UInt8.ofNat n] := by simp [be]
theorem ret_text {a b : ByteArray} (h : a = b) : Ending.returned (.string a) = Ending.returned (.string b) := by rw [h]
theorem text_eta (s : ByteArray) : s = ⟨s.data.toList.toArray⟩ := by apply ByteArray.ext; simp
theorem ofNat_mod (n : Nat) : UInt8.ofNat (n % 256) = UInt8.ofNat n := by
  apply UInt8.toNat_inj.1
  simp
theorem count_text (n : Nat) (s : ByteArray) : (⟨#[UInt8.ofNat (n / 256), UInt8.ofNat (n % 256)]⟩ : ByteArray) ++ s = ⟨(be n 2 ++ s.data.toList).toArray⟩ := by
  rw [be_two, ofNat_mod]
  exact (congrArg (fun x => (⟨#[UInt8.ofNat (n / 256), UInt8.ofNat n]⟩ : ByteArray) ++ x) (text_eta s)).trans (text_app [UInt8.ofNat (n / 256), UInt8.ofNat n] s.data.toList)
theorem cut_text (s : ByteArray) : (s.extract 0 65535).data.toList = s.data.toList.take 65535 := by rw [ByteArray.data_extract, Array.toList_extract]; simp [List.extract]

set_option maxRecDepth 100000 in
set_option maxHeartbeats 400000 in
/-- kissinggateref01.Text, of a text that is not too long -/
theorem refText_short (s : ByteArray) (w : World) (hz : s.size ≤ 65535) :
    Calls Try.prog 48 #[.string s] w fun e w' => e = .returned (.string ⟨(textBytes s).toArray⟩) ∧ Below w.heap.size w w' := by
  have hcv := conv_two (P := Try.prog) 27 9 5 sl_u8 Try.underlying5 Try.underlying9
  have hnot : ¬ (65535 : Int) < (s.size : Int) := by omega
  go_enter Try.func48, Try.ntmps48
  go_wp2_with fail
  go_ret
  refine ⟨ret_text ?_, (Below.refl _ _).alloc (Nat.le_refl _) _⟩
  rw [count_text]
  unfold textBytes
  rw [Nat.min_eq_left hz, List.take_of_length_le (by rw [text_len]; exact hz)]
set_option maxRecDepth 100000 in
set_option maxHeartbeats 400000 in
/-- kissinggateref01.Text, of a text that is too long -/
theorem refText_long (s : ByteArray) (w : World) (hz : 65535 < s.size) :
    Calls Try.prog 48 #[.string s] w fun e w' => e = .returned (.string ⟨(textBytes s).toArray⟩) ∧ Below w.heap.size w w' := by
  have hcv := conv_two (P := Try.prog) 27 9 5 sl_u8 Try.underlying5 Try.underlying9
  have hnot : (65535 : Int) < (s.size : Int) := by omega
  go_enter Try.func48, Try.ntmps48
  go_wp2_with fail
  go_ret
  refine ⟨ret_text ?_, (Below.refl _ _).alloc (Nat.le_refl _) _⟩
  rw [count_text, cut_text]
  unfold textBytes
  rw [Nat.min_comm]

set_option maxRecDepth 100000 in
/-- kissinggateref01.Text -/
theorem refText_any (s : ByteArray) (w : World) :
    Calls Try.prog 48 #[.string s] w fun e w' => e = .returned (.string ⟨(textBytes s).toArray⟩) ∧ Below w.heap.size w w' := by
  rcases Nat.lt_or_ge 65535 s.size with h | h
  · exact refText_long s w h
  · exact refText_short s w h

end Go.Proofs.Ytmhgbpgbnfdokaa
