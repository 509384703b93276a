/- The walks of package word's Int, Text, Bool, and of the document's own (kissinggateref01). -/
import Derived.Test.YtgioaapflilhhabW1
import Derived.Lib.ConvBytes
import Derived.Laws.IdiomStrings
namespace Go.Proofs.Ytgioaapflilhhab
open Go.RowKit

/-- a slice of just these bytes is handed back; what was there is as it was -/
def RetBytes (w : World) (l : List UInt8) (e : Ending) (w' : World) : Prop :=
  ∃ A c, e = .returned (.slice A l.length c) ∧ Sees w' w'.heap.size A l.length (cbs l) ∧ l.length ≤ c ∧ c ≤ maxLen ∧ Below w.heap.size w w'

/-- an int as the number modulo 2^64 -/
def u64n (m : Int) : Nat := (m % 18446744073709551616).toNat
theorem u64n_lt (m : Int) : u64n m < 18446744073709551616 := by unfold u64n; omega
theorem u64n_wrap (m : Int) : IntKind.u64.wrap m = (u64n m : Int) := by rw [IntKind.wrap_u64]; unfold u64n; omega

/-! ### '[]byte(s)' -/
theorem sees_text (w : World) (s : ByteArray) : Sees (Lib.bytesWorld w 5 s) (Lib.bytesWorld w 5 s).heap.size (some ⟨w.heap.size, 0, none⟩) s.size (cbs s.data.toList) := by
  refine ⟨by rw [cbs_length, text_len], fun _ => ⟨w.heap.size, 0, rfl, by rw [Lib.bytesWorld_size]; omega, fun j u hu => ?_⟩⟩
  rw [cbs_get] at hu
  rcases hj : s.data.toList[j]? with _ | x
  · rw [hj] at hu
    cases hu
  · rw [hj] at hu
    simp only [Option.map_some, Option.some.injEq] at hu
    subst hu
    have hlt : j < s.size := by have := (List.getElem?_eq_some_iff.1 hj).1; rwa [text_len] at this
    rw [Nat.zero_add, Lib.bytesWorld_cell w _ s j hlt, List.getD_eq_getElem?_getD, hj]
    rfl
theorem below_text (w : World) (s : ByteArray) : Below w.heap.size w (Lib.bytesWorld w 5 s) :=
  ⟨rfl, rfl, rfl, by rw [Lib.bytesWorld_size]; omega, fun k hk => Lib.bytesWorld_at_old w _ s k hk⟩

/-- what Text puts behind: the count of two bytes, and so many bytes -/
def textBytes (s : ByteArray) : List UInt8 := be (min s.size 65535) 2 ++ s.data.toList.take 65535

/-- what Bool puts behind -/
def boolBytes (b : Bool) : List UInt8 := [if b then 1 else 0]

/-! ### the document's own -/
/-- 'string(b)' of a slice that reads as bytes -/
theorem conv_sees {P : Program} (w : World) (src dst e : TypeId) (hs : P.underlying src = some (.slice e)) (he : P.underlying e = some (.int .u8)) (hd : P.underlying dst = some .string)
    (B : Nat) (A : Option Addr) (n c : Nat) (l : List UInt8) (h : Sees w B A n (cbs l)) : (convert src dst (.slice A n c)).run P w = .ok (.string ⟨l.toArray⟩) w := by
  have hl : l.length = n := by have := h.1; simpa using this
  rcases Nat.eq_zero_or_pos n with h0 | h0
  · subst h0
    have hl0 : l = [] := List.eq_nil_of_length_eq_zero hl
    subst hl0
    rcases A with _ | a
    · rw [run_convert_bytes_string w src dst e none 0 c hs he hd]
      simp [Conv.bytesToString, Sem.run_pure]
      rfl
    · exact run_convert_bytes_back w src dst e a c [] hs he hd (fun j hj => absurd hj (by simp))
  · obtain ⟨b, off, rfl, _, hc⟩ := h.2 h0
    subst hl
    refine run_convert_bytes_back w src dst e ⟨b, off, none⟩ c l hs he hd (fun j hj => ?_)
    have h1 := hc j (cb l[j]) (by rw [cbs_get, List.getElem?_eq_getElem hj]; rfl)
    unfold Addr.add
    split
    · rename_i h2
      subst h2
      exact h1
    · exact h1

/-- 'string([]byte{x})' -/
theorem conv_one {P : Program} (src dst e : TypeId) (hs : P.underlying src = some (.slice e)) (he : P.underlying e = some (.int .u8)) (hd : P.underlying dst = some .string) (w : World) (x : Int) :
    (convert src dst (.slice (some ⟨w.heap.size, 0, none⟩) 1 1)).run P (w.alloc (.cells #[.int .u8 x] e)) = .ok (.string ⟨#[UInt8.ofNat x.toNat]⟩) (w.alloc (.cells #[.int .u8 x] e)) := by
  rw [run_convert_bytes_string _ src dst e _ 1 1 hs he hd]
  have hl := run_loadCells_list (P := P) (w.alloc (.cells #[.int .u8 x] e)) ⟨w.heap.size, 0, none⟩ ([x].map (Value.int .u8)) (fun j v hj => by
    have h := (sees_new w #[.int .u8 x] e).2 (by simp)
    obtain ⟨b, off, h1, _, h2⟩ := h
    simp only [Option.some.injEq, Addr.mk.injEq] at h1
    obtain ⟨rfl, rfl, _⟩ := h1
    have := h2 j v (by simpa using hj)
    unfold Addr.add
    split
    · rename_i h3
      subst h3
      exact this
    · exact this)
  exact run_bytesToString _ _ 1 1 [x] hl
/-- 'string([]byte{x, y})' -/
theorem conv_two {P : Program} (src dst e : TypeId) (hs : P.underlying src = some (.slice e)) (he : P.underlying e = some (.int .u8)) (hd : P.underlying dst = some .string) (w : World) (x y : Int) :
    (convert src dst (.slice (some ⟨w.heap.size, 0, none⟩) 2 2)).run P (w.alloc (.cells #[.int .u8 x, .int .u8 y] e)) = .ok (.string ⟨#[UInt8.ofNat x.toNat, UInt8.ofNat y.toNat]⟩) (w.alloc (.cells #[.int .u8 x, .int .u8 y] e)) := by
  rw [run_convert_bytes_string _ src dst e _ 2 2 hs he hd]
  have hl := run_loadCells_list (P := P) (w.alloc (.cells #[.int .u8 x, .int .u8 y] e)) ⟨w.heap.size, 0, none⟩ ([x, y].map (Value.int .u8)) (fun j v hj => by
    have h := (sees_new w #[.int .u8 x, .int .u8 y] e).2 (by simp)
    obtain ⟨b, off, h1, _, h2⟩ := h
    simp only [Option.some.injEq, Addr.mk.injEq] at h1
    obtain ⟨rfl, rfl, _⟩ := h1
    have := h2 j v (by simpa using hj)
    unfold Addr.add
    split
    · rename_i h3
      subst h3
      exact this
    · exact this)
  exact run_bytesToString _ _ 2 2 [x, y] hl

theorem text_app (l m : List UInt8) : ((⟨l.toArray⟩ : ByteArray) ++ (⟨m.toArray⟩ : ByteArray)) = ⟨(l ++ m).toArray⟩ := by
  apply ByteArray.ext
  simp [ByteArray.data_append]
theorem step_byte (N k : Nat) : UInt8.ofNat (((N : Int) / 256 ^ k).tmod 256 % 256).toNat = UInt8.ofNat (N / 256 ^ k) := by
  have e : ((N : Int) / 256 ^ k) = ((N / 256 ^ k : Nat) : Int) := by simp
  rw [e]
  generalize N / 256 ^ k = M
  rw [Int.tmod_eq_emod_of_nonneg (by omega), show (((M : Int) % 256 % 256).toNat) = M % 256 from by omega]
  apply UInt8.toNat_inj.1
  simp
theorem step_rest (N k : Nat) (hN : N < 18446744073709551616) : IntKind.u64.wrap (((N : Int) / 256 ^ k).tdiv 256) = ((N / 256 ^ (k + 1) : Nat) : Int) := by
  have e : ((N : Int) / 256 ^ k) = ((N / 256 ^ k : Nat) : Int) := by simp
  have h1 : N / 256 ^ k ≤ N := Nat.div_le_self _ _
  rw [e, Nat.pow_succ, ← Nat.div_div_eq_div_mul]
  generalize N / 256 ^ k = M at *
  have h2 : ((M : Int)).tdiv 256 = ((M / 256 : Nat) : Int) := by rw [Int.tdiv_eq_ediv_of_nonneg (by omega)]; omega
  rw [h2]
  exact IntWalk.u64_in _ ⟨by omega, by omega⟩

theorem be_two (n : Nat) : be n 2 = [UInt8.ofNat (n / 256), UInt8.ofNat n] := by simp [be]
theorem ret_text {a b : ByteArray} (h : a = b) : Ending.returned (.string a) = Ending.returned (.string b) := by rw [h]
theorem text_eta (s : ByteArray) : s = ⟨s.data.toList.toArray⟩ := by apply ByteArray.ext; simp
theorem ofNat_mod (n : Nat) : UInt8.ofNat (n % 256) = UInt8.ofNat n := by
  apply UInt8.toNat_inj.1
  simp
theorem count_text (n : Nat) (s : ByteArray) : (⟨#[UInt8.ofNat (n / 256), UInt8.ofNat (n % 256)]⟩ : ByteArray) ++ s = ⟨(be n 2 ++ s.data.toList).toArray⟩ := by
  rw [be_two, ofNat_mod]
  exact (congrArg (fun x => (⟨#[UInt8.ofNat (n / 256), UInt8.ofNat n]⟩ : ByteArray) ++ x) (text_eta s)).trans (text_app [UInt8.ofNat (n / 256), UInt8.ofNat n] s.data.toList)
theorem cut_text (s : ByteArray) : (s.extract 0 65535).data.toList = s.data.toList.take 65535 := by rw [ByteArray.data_extract, Array.toList_extract]; simp [List.extract]

end Go.Proofs.Ytgioaapflilhhab
