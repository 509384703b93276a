/- The walks of frame.All and of the document's own All, and of the statements' comparison of rows. -/
import Derived.Test.YtmhgbpgbnfdokaaF3b
namespace Go.Proofs.Ytmhgbpgbnfdokaa
open Go.RowKit

theorem sl_row : (Try.prog.info? 27).map (fun i => (i.zero, i.size, i.bytes)) = some (some (.slice none 0 0), 1, 24) := by kernel_rfl
theorem ssl_u8 : Try.prog.underlying 145 = some (.slice 27) := Try.underlying145

/-- a row of slices of bytes, all of them in rows from block `base` on -/
def Rows (w : World) (base : Nat) (A : Option Addr) (c : Nat) (ps : List Part) : Prop :=
  Free w base 27 A ps.length c (ps.map Part.v) ∧ ∀ p ∈ ps, Free w base 5 p.A p.n p.c (cbs p.l)
theorem parts_one (ps : List Part) : ∀ u ∈ ps.map Part.v, u.oneCell' = true := by
  intro u hu
  obtain ⟨x, _, rfl⟩ := List.mem_map.1 hu
  rfl
theorem Rows.on {w w' : World} {base : Nat} {A : Option Addr} {c : Nat} {ps : List Part} (h : Rows w base A c ps) (hb : Below w.heap.size w w') : Rows w' base A c ps :=
  ⟨h.1.on hb, fun p hp => (h.2 p hp).on hb⟩
/-- what All answers -/
def AllRet (w : World) (r : List (List UInt8) × Nat × Nat) (e : Ending) (w' : World) : Prop :=
  ∃ A c ps, e = .returned (.tuple #[.slice A ps.length c, .int .i64 (r.2.1 : Int), .int .i64 (r.2.2 : Int)]) ∧ ps.map (·.l) = r.1 ∧ Rows w' w.heap.size A c ps ∧ Below w.heap.size w w'

set_option maxRecDepth 100000 in
set_option maxHeartbeats 1600000 in
/-- frame.All -/
theorem all_any (A : Option Addr) (n c : Nat) (l : List UInt8) (w : World) (hs : Sees w w.heap.size A n (cbs l)) (hc : n ≤ c) (hm : c ≤ maxLen) (hn : n ≤ 1099511627776) :
    Calls Try.prog 100 #[.slice A n c] w (AllRet w (allF l.length l)) := by
  have hlen : l.length = n := by have := hs.1; simpa using this
  obtain ⟨i0, hi0, hz0, hz1, hz2⟩ := info_parts sl_row
  generalize hR : allF l.length l = R at *
  have HR := Lib.hid hR
  have HLEN := Lib.hid hlen
  have HS := Lib.hid hs
  have HM := Lib.hid hm
  clear hR hlen hs hm
  go_enter Try.func100, Try.ntmps100
  go_wp2_with fail
  go_loopw [5, 6] (fun v e wr => ∃ (ps : List Part) (k : Nat) (A' : Option Addr) (c' : Nat), v = .slice A' ps.length c' ∧ e = .int .i64 (k : Int) ∧ Upto l (ps.map (·.l)) k ∧ Rows wr w.heap.size A' c' ps ∧ Below w.heap.size w wr) (fun _ e _ => n - (intOf e).toNat)
  case atStart => exact ⟨[], 0, none, 0, rfl, rfl, Upto.start l, ⟨Free.nil _ _ _, fun p hp => by cases hp⟩, Below.refl _ _⟩
  case round =>
    obtain ⟨ps, k, A', c', rfl, rfl, hup, hrow, hbel⟩ := hrel
    have hkn : k ≤ n := by have := hup.1; have := HLEN.out; omega
    by_cases hlt : k < n
    · have hlt' : (k : Int) < (n : Int) := by omega
      have hck : ¬ c = k := by omega
      have hsr := HS.out.below hbel
      have hdr := hsr.drop (k := k) hkn hc
      rw [if_neg hck] at hdr
      have hd1 : (cbs l).drop k = cbs (l.drop k) := by simp [cbs]
      rw [hd1] at hdr
      have hB : w.heap.size ≤ wr.heap.size := hbel.size
      have hc1 : n - k ≤ c - k := by omega
      have hm1 : c - k ≤ maxLen := Nat.le_trans (Nat.sub_le _ _) HM.out
      have hn1 : n - k ≤ 140737488355328 := by omega
      have HT := Lib.hid (take_any (A.map (·.add k)) (n - k) (c - k) (l.drop k) w.heap.size wr hdr hB hc1 hm1 hn1)
      have HUP := Lib.hid hup
      have HROW := Lib.hid hrow
      clear hdr hd1 hc1 hm1 hn1 hsr hup hrow
      go_wp2_with fail
      refine HT.out.mono ?_
      rintro e w1 ⟨A1, c1, rfl, hf1, hb1⟩
      have hlk : k < l.length := by rw [HLEN.out]; exact hlt
      have hrow1 := HROW.out.on hb1
      have hbel1 := bthen hbel hb1
      by_cases hE : (takeF (l.drop k)).e = 0
      · have hup1 := HUP.out.next hlk hE
        have hbd := HUP.out.2.1
        have hkk := (takeF_some _ hE).2.1
        have hm0 := (takeF_some _ hE).1
        rw [List.length_drop] at hkk
        have HUP1 := Lib.hid hup1
        generalize takeF (l.drop k) = T at *
        obtain ⟨p, m, E⟩ := T
        simp only at hE hkk hf1 hm0
        subst hE
        have hm00 : 0 < m := by omega
        clear hm0
        have hps : 8 * ps.length ≤ k := by simp only [List.length_map] at hbd; omega
        have hkn2 : k + m ≤ n := by have := HLEN.out; omega
        have hm2 : ps.length + 1 ≤ maxLen := by unfold maxLen; omega
        have hm3 : (ps.length + 1) * 24 ≤ 140737488355328 := by omega
        have hf2 := (hf1.mono hB).alloc (.cells #[.slice A1 p.length c1] 27)
        have hrow2 : Rows (w1.alloc (.cells #[.slice A1 p.length c1] 27)) w.heap.size A' c' ps := hrow1.on ((Below.refl _ _).alloc (Nat.le_refl _) _)
        have hbel2 := hbel1.alloc hbel1.size (.cells #[.slice A1 p.length c1] 27)
        have hsr2 := sees_new w1 #[.slice A1 p.length c1] 27
        have hz3 := hbel2.size
        have hz4 := hb1.size
        clear hup1 hbd hrow1 hbel1 hf1 HUP HROW HT hkk
        go_wp2_with (at_builtin; refine wpList_append_free _ rfl (.tmp 27) (.tmp 29) _ rfl w.heap.size 27 i0 _ 24 ssl_u8 hi0 hz0 hz1 hz2 rfl A' ps.length c' (ps.map Part.v) rfl hrow2.1 (parts_one ps) _ _ 1 1 [.slice A1 p.length c1] rfl hsr2 (by simp [Value.oneCell']) hm2 hm3 hz3 ?_
                     intro A3 c3 w3 ha
                     have hrow3 : Rows w3 w.heap.size A3 c3 (ps ++ [⟨A1, p.length, c1, p⟩]) := ⟨by rw [List.length_append, List.map_append]; exact ha.1, fun q hq => by
                       rcases List.mem_append.1 hq with h | h
                       · exact ha.across hrow2.1 (by decide) (hrow2.2 q h)
                       · rw [List.mem_singleton.1 h]; exact ha.across hrow2.1 (by decide) hf2⟩
                     have hbel3 := ha.below hrow2.1 hbel2 hz3 (Nat.le_refl _)
                     clear ha hf2 hrow2 hbel2 hsr2)
        go_roundw
        case rel => exact ⟨ps ++ [⟨A1, p.length, c1, p⟩], k + m, A3, c3, by simp, by go_num, by have := HUP1.out; simpa using this, hrow3, hbel3⟩
        case measure => simp [intOf]; omega
      · have hfa := HUP.out.fault hlk hE
        have hE' : ¬ ((takeF (l.drop k)).e : Int) = 0 := by omega
        have hE2 : (((takeF (l.drop k)).e : Int) == 0) = false := by rw [beq_eq_false_iff_ne]; exact hE'
        rw [HR.out] at hfa
        have HFA := Lib.hid hfa
        clear hfa HUP HROW HT hE
        generalize takeF (l.drop k) = T at *
        go_wp2_with fail
        go_ret3
        rw [HFA.out]
        exact ⟨A', c', ps, rfl, rfl, hrow1, hbel1⟩
    · have hkn' : k = n := by omega
      have hst := hup.stop (by rw [HLEN.out]; exact hkn')
      rw [HR.out] at hst
      have HST := Lib.hid hst
      have hlt' : ¬ (k : Int) < (n : Int) := by omega
      clear hst hup
      subst hkn'
      go_wp2_with fail
      go_ret3
      rw [HST.out]
      exact ⟨A', c', ps, rfl, rfl, hrow, hbel⟩

/-- an element of such a row -/
theorem rows_at {w : World} {base : Nat} {A : Option Addr} {c : Nat} {ps : List Part} (h : Rows w base A c ps) {j : Nat} (hj : j < ps.length) :
    ∃ b off A1 n1 c1 l1, A = some ⟨b, off, none⟩ ∧ b < w.heap.size ∧ ps[j]? = some ⟨A1, n1, c1, l1⟩ ∧ w.cell? ⟨b, off + j, none⟩ = some (.slice A1 n1 c1) ∧ Sees w w.heap.size A1 n1 (cbs l1) := by
  obtain ⟨b, off, u, hA, _, hb, hu, hc, _⟩ := h.1.at_ hj
  have hm := List.getElem?_eq_getElem hj
  rw [List.getElem?_map, hm] at hu
  simp only [Option.map_some, Option.some.injEq, Part.v] at hu
  subst hu
  exact ⟨b, off, _, _, _, _, hA, hb, hm, hc, (h.2 _ (List.getElem_mem hj)).sees⟩

/-! ### the contracts where the answer is known -/
theorem TakeRet.at {w w' : World} {t : TK} {e : Ending} {p : List UInt8} {n k m : Nat} (h : TakeRet w t e w') (ht : t = ⟨p, n, k⟩) (hm : p.length = m) :
    ∃ A c, e = .returned (.tuple #[.slice A m c, .int .i64 (n : Int), .int .i64 (k : Int)]) ∧ Free w' w.heap.size 5 A m c (cbs p) ∧ Below w.heap.size w w' := by
  subst ht
  subst hm
  exact h
theorem WholeRet.at {w w' : World} {t : List UInt8 × Nat} {e : Ending} {p : List UInt8} {k m : Nat} (h : WholeRet w t e w') (ht : t = (p, k)) (hm : p.length = m) :
    ∃ A c, e = .returned (.tuple #[.slice A m c, .int .i64 (k : Int)]) ∧ Free w' w.heap.size 5 A m c (cbs p) ∧ Below w.heap.size w w' := by
  subst ht
  subst hm
  exact h
theorem PutRet.at {w w' : World} {l p : List UInt8} {e : Ending} {m : Nat} (h : PutRet w l e w') (ht : l = p) (hm : p.length = m) :
    ∃ A c, e = .returned (.tuple #[.slice A m c, .int .i64 0]) ∧ Free w' w.heap.size 5 A m c (cbs p) ∧ Below w.heap.size w w' := by
  subst ht
  subst hm
  exact h
theorem Bytes.at {w w' : World} {l p : List UInt8} {e : Ending} {m : Nat} (h : Bytes w l e w') (ht : l = p) (hm : p.length = m) :
    ∃ A c, e = .returned (.slice A m c) ∧ Free w' w.heap.size 5 A m c (cbs p) ∧ Below w.heap.size w w' := by
  subst ht
  subst hm
  exact h
theorem AllRet.at {w w' : World} {r : List (List UInt8) × Nat × Nat} {e : Ending} {l : List (List UInt8)} {n k m : Nat} (h : AllRet w r e w') (ht : r = (l, n, k)) (hm : l.length = m) :
    ∃ A c ps, e = .returned (.tuple #[.slice A m c, .int .i64 (n : Int), .int .i64 (k : Int)]) ∧ ps.map (·.l) = l ∧ ps.length = m ∧ Rows w' w.heap.size A c ps ∧ Below w.heap.size w w' := by
  subst ht
  obtain ⟨A, c, ps, he, hl, hr⟩ := h
  have hpm : ps.length = m := by rw [← hm]; have := congrArg List.length hl; simpa using this
  exact ⟨A, c, ps, by rw [← hpm]; exact he, hl, hpm, hr⟩
end Go.Proofs.Ytmhgbpgbnfdokaa
