/- Package route: the document's answers on keys split into parts alike. -/
import Derived.Test.YtgioaapflilhhabRt7
import Derived.Deep.LoopGhost
namespace Go.Proofs.Ytgioaapflilhhab
open Go.RowKit

/-- greater than all -/
def Over (out : List ByteArray) (x : ByteArray) : Prop := ∀ o ∈ out, ltS o x = true
theorem over_nil (x : ByteArray) : Over [] x := fun o ho => absurd ho (by simp)
theorem over_last {out : List ByteArray} (h : Rises out) {p : Nat} (hp : out.length = p + 1) (x : ByteArray) : Over out x ↔ ltS (out[p]'(by omega)) x = true := by
  constructor
  · exact fun k => k _ (List.getElem_mem _)
  · intro k o ho
    obtain ⟨j, hj, rfl⟩ := List.mem_iff_getElem.1 ho
    by_cases e : j = p
    · subst e; exact k
    · exact ltS_trans (h.at_lt (i := j) (j := p) (by omega) (by omega)) k
theorem rises_snoc {out : List ByteArray} (h : Rises out) {y : ByteArray} (hy : Over out y) : Rises (out ++ [y]) := by
  intro k hk
  simp only [List.length_append, List.length_singleton] at hk
  by_cases hl : k + 1 < out.length
  · rw [List.getElem_append_left (by omega), List.getElem_append_left hl]
    exact h k hl
  · rw [List.getElem_append_left (by omega), List.getElem_append_right (by omega)]
    simp only [List.getElem_singleton]
    exact hy _ (List.getElem_mem _)
theorem count_less {α : Type} {p q : α → Bool} : ∀ (l : List α), (∀ x ∈ l, q x = true → p x = true) → (∃ x ∈ l, p x = true ∧ q x = false) → l.countP q < l.countP p
  | [], _, h => by obtain ⟨x, hx, _⟩ := h; simp at hx
  | a :: l, hs, h => by
    rw [List.countP_cons, List.countP_cons]
    have hle : l.countP q ≤ l.countP p := List.countP_mono_left fun x hx => hs x (List.mem_cons_of_mem _ hx)
    obtain ⟨x, hx, h1, h2⟩ := h
    rcases List.mem_cons.1 hx with rfl | hx
    · rw [h1, h2]
      simp
      omega
    · have := count_less l (fun x hx => hs x (List.mem_cons_of_mem _ hx)) ⟨x, hx, h1, h2⟩
      by_cases hq : q a = true
      · rw [hq, hs a (List.mem_cons_self ..) hq]
        omega
      · have hq' : q a = false := by simpa using hq
        rw [hq']
        cases p a <;> simp <;> omega

/-- where the search for the least one stands -/
def Seek (l out : List ByteArray) (j : Nat) (least : Value) (some_ : Value) : Prop :=
  (least = .string ⟨#[]⟩ ∧ some_ = .bool false ∧ ∀ (i : Nat) (hi : i < l.length), i < j → ¬ Over out l[i]) ∨
  (∃ y, least = .string y ∧ some_ = .bool true ∧ y ∈ l ∧ Over out y ∧ ∀ (i : Nat) (hi : i < l.length), i < j → Over out l[i] → ltS l[i] y = false)
/-- how far the rising row has come -/
def Grows (l out : List ByteArray) : Prop := Rises out ∧ (∀ x ∈ out, x ∈ l) ∧ ∀ x ∈ l, x ∈ out ∨ Over out x
theorem Grows.snoc {l out : List ByteArray} (h : Grows l out) {y : ByteArray} (hy : y ∈ l) (ho : Over out y) (hl : ∀ (i : Nat) (hi : i < l.length), Over out l[i] → ltS l[i] y = false) : Grows l (out ++ [y]) := by
  obtain ⟨h1, h2, h3⟩ := h
  refine ⟨rises_snoc h1 ho, fun x hx => ?_, fun x hx => ?_⟩
  · rw [List.mem_append, List.mem_singleton] at hx
    rcases hx with hx | rfl
    · exact h2 x hx
    · exact hy
  · rcases h3 x hx with h | h
    · exact .inl (List.mem_append_left _ h)
    · by_cases e : x = y
      · subst e
        exact .inl (by simp)
      · right
        intro o ho'
        rw [List.mem_append, List.mem_singleton] at ho'
        rcases ho' with ho' | rfl
        · exact h o ho'
        · obtain ⟨i, hi, rfl⟩ := List.mem_iff_getElem.1 hx
          have := hl i hi h
          cases k : ltS o l[i] with
          | true => rfl
          | false => exact absurd (ltS_tri this k) e
theorem left_less {l out : List ByteArray} {y : ByteArray} (hy : y ∈ l) (ho : Over out y) : (l.countP fun x => !hasS (out ++ [y]) x) < l.countP fun x => !hasS out x := by
  refine count_less l (fun x _ h => ?_) ⟨y, hy, ?_, ?_⟩
  · rw [Bool.not_eq_true'] at *
    rw [Bool.eq_false_iff] at *
    intro k
    exact h ((hasS_iff _ _).2 (List.mem_append_left _ ((hasS_iff _ _).1 k)))
  · rw [Bool.not_eq_true', Bool.eq_false_iff]
    intro k
    have := ho y ((hasS_iff _ _).1 k)
    rw [ltS_irrefl] at this
    cases this
  · rw [Bool.not_eq_false', hasS_iff]
    simp
/-- the ways of one key -/
theorem seek_ways {w : World} {base m c : Nat} {A : Option Addr} {out : List ByteArray} (hf : FreeN 1 w base 9 A m c (txs out)) (hm : out.length = m) (hr : Rises out) (x : ByteArray) :
    (((m : Int) == 0) = true ∧ Over out x) ∨
    (∃ p b off z, m = p + 1 ∧ ((m : Int) == 0) = false ∧ A = some ⟨b, off, none⟩ ∧ w.cell? ⟨b, off + p, none⟩ = some (.string z) ∧
      (((Op.bytesLess x.toList z.toList || x.toList == z.toList) = false ∧ Over out x) ∨ ((Op.bytesLess x.toList z.toList || x.toList == z.toList) = true ∧ ¬ Over out x))) := by
  rcases Nat.eq_zero_or_pos m with h | h
  · left
    subst h
    have : out = [] := List.eq_nil_of_length_eq_zero hm
    subst this
    exact ⟨rfl, over_nil x⟩
  · right
    obtain ⟨p, rfl⟩ : ∃ p, m = p + 1 := ⟨m - 1, by omega⟩
    have hs := hf.sees
    rw [Nat.mul_one] at hs
    obtain ⟨b, off, hA, _, hc⟩ := hs.txt (k := p) (by omega)
    refine ⟨p, b, off, out[p]'(by omega), rfl, by rw [beq_eq_false_iff_ne]; omega, hA, hc, ?_⟩
    have hov := over_last hr hm x
    cases k : ltS (out[p]'(by omega)) x with
    | true => exact .inl ⟨le_raw k, hov.2 k⟩
    | false => exact .inr ⟨gt_raw k, fun h => by rw [hov.1 h] at k; cases k⟩

set_option maxRecDepth 100000 in
set_option maxHeartbeats 6400000 in
theorem sorted_any (A : Option Addr) (n c : Nat) (l : List ByteArray) (w : World) (hs : Sees w w.heap.size A n (txs l)) (hn : n ≤ 1000) :
    Calls Try.prog 31 #[.slice A n c] w fun e w' => ∃ out A' c', e = .returned (.slice A' out.length c') ∧ Rises out ∧ (∀ x, x ∈ out ↔ x ∈ l) ∧ out.length ≤ n ∧ FreeN 1 w' w.heap.size 9 A' out.length c' (txs out) ∧ Below w.heap.size w w' := by
  obtain rfl : l.length = n := by have := hs.1; rwa [txs_length] at this
  obtain ⟨i0, hi0, hz0, hz1, hz2⟩ := info_parts str_row
  have HS := Lib.hid hs
  have HN := Lib.hid hn
  have hnl : (l.length : Int) ≤ 1000 := by omega
  clear hs hn
  go_enter Try.func31, Try.ntmps31
  go_wp2_with fail
  go_loopg [3] l.length (fun g sp wr => ∃ (out : List ByteArray) (m : Nat) (A5 : Option Addr) (c5 : Nat), out.length = m ∧ sp = .slice A5 m c5 ∧ FreeN 1 wr w.heap.size 9 A5 m c5 (txs out) ∧ Below w.heap.size w wr ∧ Grows l out ∧ (l.countP fun x => !hasS out x) ≤ g ∧ out.length + (l.countP fun x => !hasS out x) ≤ l.length)
  case atStart => exact ⟨[], 0, none, 0, rfl, rfl, FreeN.nil _ _ _ _, Below.refl _ _, ⟨fun k hk => absurd hk (by simp), fun x hx => absurd hx (by simp), fun x _ => .inr (over_nil x)⟩, List.countP_le_length, by simp; exact List.countP_le_length⟩
  case round =>
    obtain ⟨out, m, A5, c5, hm, rfl, hf5, hb5, hgr, hg, hgl⟩ := hrel
    have HM := Lib.hid hm
    have HF5 := Lib.hid hf5
    have HB5 := Lib.hid hb5
    have HGR := Lib.hid hgr
    have HG := Lib.hid hg
    have HGL := Lib.hid hgl
    have hm9 : (m : Int) ≤ 1000 := by have := HN.out; omega
    clear hm hf5 hb5 hgr hg hgl
    go_wp2_with fail
    go_loop [4, 5, 10] (fun le so jv => ∃ j : Nat, j ≤ l.length ∧ jv = .int .i64 (j : Int) ∧ Seek l out j le so) (fun _ _ jv => l.length - (intOf jv).toNat)
    case atStart => exact ⟨0, Nat.zero_le _, rfl, .inl ⟨rfl, rfl, fun _ _ h => absurd h (by omega)⟩⟩
    case round =>
      obtain ⟨j, hj, rfl, hsk⟩ := hrel
      by_cases hlt : j < l.length
      · have hlt' : (j : Int) < (l.length : Int) := by omega
        obtain ⟨b, off, rfl, hb, hcell⟩ := ((HS.out.below HB5.out).txt hlt)
        obtain ⟨x, hx⟩ : ∃ x, l[j] = x := ⟨_, rfl⟩
        rw [hx] at hcell
        have HX := Lib.hid hx
        have HW := Lib.hid (seek_ways HF5.out HM.out HGR.out.1 x)
        have HXL := Lib.hid (show x ∈ l by rw [← hx]; exact List.getElem_mem _)
        clear hx hb
        -- what comes of this key
        have HNO := Lib.hid (fun (h : ¬ Over out x) le so (hs : Seek l out j le so) => show Seek l out (j + 1) le so by
          rcases hs with ⟨h1, h2, h3⟩ | ⟨y, h1, h2, h3, h4, h5⟩
          · refine .inl ⟨h1, h2, fun i hi hij => ?_⟩
            by_cases e : i = j
            · subst e; rw [HX.out]; exact h
            · exact h3 i hi (by omega)
          · refine .inr ⟨y, h1, h2, h3, h4, fun i hi hij ho => ?_⟩
            by_cases e : i = j
            · subst e; rw [HX.out] at ho; exact absurd ho h
            · exact h5 i hi (by omega) ho)
        rcases hsk with ⟨rfl, rfl, h3⟩ | ⟨y, rfl, rfl, h3, h4, h5⟩
        · have HYES := Lib.hid (fun (h : Over out x) => show Seek l out (j + 1) (.string x) (.bool true) from .inr ⟨x, rfl, rfl, HXL.out, h, fun i hi hij ho => by
            by_cases e : i = j
            · subst e; rw [HX.out, ltS_irrefl]
            · exact absurd ho (h3 i hi (by omega))⟩)
          have HNO2 := Lib.hid (fun (h : ¬ Over out x) => HNO.out h _ _ (.inl ⟨rfl, rfl, h3⟩))
          clear h3
          rcases HW.out with ⟨k1, k2⟩ | ⟨p, b2, off2, z, rfl, k1, rfl, k3, ⟨k4, k5⟩ | ⟨k4, k5⟩⟩
          · have K2 := Lib.hid (HYES.out k2)
            clear k2
            go_wp2_with fail
            go_round
            case rel => exact ⟨j + 1, by omega, by go_num, K2.out⟩
            case measure => simp [intOf]; omega
          · have K2 := Lib.hid (HYES.out k5)
            clear k5
            go_wp2_with fail
            go_round
            case rel => exact ⟨j + 1, by omega, by go_num, K2.out⟩
            case measure => simp [intOf]; omega
          · have K2 := Lib.hid (HNO2.out k5)
            clear k5
            go_wp2_with fail
            go_round
            case rel => exact ⟨j + 1, by omega, by go_num, K2.out⟩
            case measure => simp [intOf]; omega
        · have HNO2 := Lib.hid (fun (h : ¬ Over out x) => HNO.out h _ _ (.inr ⟨y, rfl, rfl, h3, h4, h5⟩))
          have HLT := Lib.hid (fun (h : Over out x) (hxy : ltS x y = true) => show Seek l out (j + 1) (.string x) (.bool true) from .inr ⟨x, rfl, rfl, HXL.out, h, fun i hi hij ho => by
            by_cases e : i = j
            · subst e; rw [HX.out, ltS_irrefl]
            · have := h5 i hi (by omega) ho
              cases k : ltS l[i] x with
              | false => rfl
              | true => rw [ltS_trans k hxy] at this; cases this⟩)
          have HGE := Lib.hid (fun (hxy : ltS x y = false) => show Seek l out (j + 1) (.string y) (.bool true) from .inr ⟨y, rfl, rfl, h3, h4, fun i hi hij ho => by
            by_cases e : i = j
            · subst e; rw [HX.out]; exact hxy
            · exact h5 i hi (by omega) ho⟩)
          clear h3 h4 h5
          rcases HW.out with ⟨k1, k2⟩ | ⟨p, b2, off2, z, rfl, k1, rfl, k3, ⟨k4, k5⟩ | ⟨k4, k5⟩⟩
          · cases hxy : ltS x y with
            | true =>
              have hraw := lt_raw hxy
              have K2 := Lib.hid (HLT.out k2 hxy)
              clear k2 hxy
              go_wp2_with fail
              go_round
              case rel => exact ⟨j + 1, by omega, by go_num, K2.out⟩
              case measure => simp [intOf]; omega
            | false =>
              have hraw := lt_raw hxy
              have K2 := Lib.hid (HGE.out hxy)
              clear k2 hxy
              go_wp2_with fail
              go_round
              case rel => exact ⟨j + 1, by omega, by go_num, K2.out⟩
              case measure => simp [intOf]; omega
          · cases hxy : ltS x y with
            | true =>
              have hraw := lt_raw hxy
              have K2 := Lib.hid (HLT.out k5 hxy)
              clear k5 hxy
              go_wp2_with fail
              go_round
              case rel => exact ⟨j + 1, by omega, by go_num, K2.out⟩
              case measure => simp [intOf]; omega
            | false =>
              have hraw := lt_raw hxy
              have K2 := Lib.hid (HGE.out hxy)
              clear k5 hxy
              go_wp2_with fail
              go_round
              case rel => exact ⟨j + 1, by omega, by go_num, K2.out⟩
              case measure => simp [intOf]; omega
          · have K2 := Lib.hid (HNO2.out k5)
            clear k5
            go_wp2_with fail
            go_round
            case rel => exact ⟨j + 1, by omega, by go_num, K2.out⟩
            case measure => simp [intOf]; omega
      · have hge : ¬ (j : Int) < (l.length : Int) := by omega
        rcases hsk with ⟨rfl, rfl, h3⟩ | ⟨y, rfl, rfl, h3, h4, h5⟩
        · have HMEM := Lib.hid (show ∀ x, x ∈ out ↔ x ∈ l from fun x => ⟨HGR.out.2.1 x, fun hx => by
            rcases HGR.out.2.2 x hx with h | h
            · exact h
            · obtain ⟨i, hi, rfl⟩ := List.mem_iff_getElem.1 hx
              exact absurd h (h3 i hi (by omega))⟩)
          clear h3
          go_wp2_with fail
          go_ret
          have hm := HM.out
          subst hm
          exact ⟨out, A5, c5, rfl, HGR.out.1, HMEM.out, by have := HGL.out; omega, HF5.out, HB5.out⟩
        · have HGR2 := Lib.hid (HGR.out.snoc h3 h4 (fun i hi ho => h5 i hi (by omega) ho))
          have HLESS := Lib.hid (left_less (out := out) h3 h4)
          have h1x : ∀ u ∈ [Value.string y], u.oneCell' = true := fun u hu => by rw [List.mem_singleton] at hu; subst hu; rfl
          have hm1 : m + 1 ≤ maxLen := Nat.le_trans (show m + 1 ≤ 1001 by omega) (by decide)
          have hm2 : (m + 1) * 16 ≤ 140737488355328 := by omega
          have hf6 := HF5.out.on ((Below.refl _ _).alloc (Nat.le_refl _) (.cells #[.string y] 9))
          have hsx := sees_new wr #[.string y] 9
          have hbz := Nat.le_trans HB5.out.size (show wr.heap.size ≤ (wr.alloc (.cells #[.string y] 9)).heap.size by simp)
          have HB6 := Lib.hid (HB5.out.alloc HB5.out.size (.cells #[.string y] 9))
          have HF6 := Lib.hid hf6
          clear h3 h4 h5
          go_wp2_with (at_builtin; refine wpList_append_freeN (sz := 1) _ rfl (.tmp 41) (.tmp 43) _ rfl w.heap.size 9 i0 _ 16 sl_txt hi0 hz0 hz1 hz2 rfl (by omega) A5 _ c5 _ rfl hf6 _ _ 1 1 [.string y] rfl hsx h1x hm1 hm2 hbz ?_; intro A7 c7 w7 ha7)
          have HB7 := Lib.hid (ha7.below HF6.out HB6.out (Nat.le_trans HB5.out.size (by simp)) (Nat.le_refl _))
          have HF7 := Lib.hid ha7.1
          go_roundg (l.countP fun x => !hasS (out ++ [y]) x)
          case measure => exact Nat.lt_of_lt_of_le HLESS.out HG.out
          case rel => exact ⟨out ++ [y], m + 1, A7, c7, by rw [List.length_append, HM.out]; rfl, rfl, by rw [txs_append]; exact HF7.out, HB7.out, HGR2.out, Nat.le_refl _, by rw [List.length_append]; have := HLESS.out; have := HGL.out; simp only [List.length_singleton]; omega⟩
end Go.Proofs.Ytgioaapflilhhab
