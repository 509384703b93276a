/- The walks of frame.Take and frame.Whole. -/
import Derived.Test.YtlggkeoihpcdiaaJ3
namespace Go.Proofs.Ytlggkeoihpcdiaa
open Go.RowKit

/-- what Take answers -/
def TakeRet (w : World) (t : TK) (e : Ending) (w' : World) : Prop :=
  ∃ A c, e = .returned (.tuple #[.slice A t.p.length c, .int .i64 (t.n : Int), .int .i64 (t.e : Int)]) ∧ Free w' w.heap.size 5 A t.p.length c (cbs t.p) ∧ Below w.heap.size w w'
theorem TakeRet.none_ {w w' : World} {e : Ending} {t : TK} {k : Nat} (ht : t = ⟨[], 0, k⟩) (he : e = .returned (.tuple #[.slice none 0 0, .int .i64 0, .int .i64 (k : Int)])) (hb : Below w.heap.size w w') : TakeRet w t e w' := by
  subst ht
  exact ⟨none, 0, he, Free.nil _ _ _, hb⟩

set_option maxRecDepth 100000 in
set_option maxHeartbeats 800000 in
/-- frame.Take -/
theorem take_any (A : Option Addr) (n c : Nat) (l : List UInt8) (B : Nat) (w : World) (hs : Sees w B A n (cbs l)) (hB : B ≤ w.heap.size) (hc : n ≤ c) (hm : c ≤ maxLen) (hn : n ≤ 140737488355328) :
    Calls Try.prog 118 #[.slice A n c] w (TakeRet w (takeF l)) := by
  have hlen : l.length = n := by have := hs.1; simpa using this
  have HL := Lib.hid (length_any A n c l B w hs hB hc hm)
  have hfle := lenF_le l
  have HT := Lib.hid (show takeF l = if (lenF l).2 ≠ 0 then ⟨[], 0, (lenF l).2⟩ else
    if l.length < (lenF l).1 + 8 then ⟨[], 0, 2⟩ else
    if le4 (crcOf ((l.drop 4).take (lenF l).1)) = (l.drop (4 + (lenF l).1)).take 4 then ⟨(l.drop 4).take (lenF l).1, (lenF l).1 + 8, 0⟩ else ⟨[], 0, 3⟩ from rfl)
  generalize takeF l = T at *
  generalize hLF : lenF l = LF at *
  obtain ⟨N, E⟩ := LF
  simp only at hfle HL HT
  have hm9 : c ≤ 9223372036854775807 := hm
  clear hm
  have HLEN := Lib.hid hlen
  clear hlen
  go_enter Try.func118, Try.ntmps118
  go_wp2_with fail
  refine HL.out.mono ?_
  rintro e w1 ⟨rfl, hb1⟩
  have hs1 := hs.keep (w' := w1) (fun p hp => hb1.cell (by omega))
  have hB1 : B ≤ w1.heap.size := Nat.le_trans hB hb1.size
  clear hs
  by_cases hE : E = 0
  · subst hE
    go_wp2_with fail
    refine (size_any (N : Int) w1 (by omega)).mono ?_
    rintro e w1 ⟨rfl, rfl⟩
    have hmx : max (N : Int) 0 = (N : Int) := by omega
    have hT := HT.out
    rw [if_neg (by simp), HLEN.out] at hT
    by_cases hsz : n < N + 8
    · have hsz' : (n : Int) < (N : Int) + 8 := by omega
      rw [if_pos hsz] at hT
      have HTT := Lib.hid hT
      clear hT HT HL
      go_wp2_with fail
      go_ret3
      exact TakeRet.none_ HTT.out rfl hb1
    · have hsz' : ¬ (n : Int) < (N : Int) + 8 := by omega
      rw [if_neg hsz] at hT
      have hsd := (hs1.drop (k := 4) (by omega) hc).take (k := N) (by omega)
      have hse := (hs1.drop (k := 4 + N) (by omega) hc).take (k := 4) (by omega)
      rw [if_neg (by omega)] at hsd hse
      have HSD := Lib.hid hsd
      have HSE := Lib.hid hse
      clear hsd hse
      have HTT := Lib.hid hT
      clear hT HT HL
      have hn4 : ¬ c = 4 := by omega
      have hnN : ¬ c = 4 + N := by omega
      go_wp2_with fail
      go_quiet (fail)
      have hsd : Sees (w1.drewN nq) B (Option.map (fun x => ({ block := x.block, off := x.off + 4 } : Addr)) A) N (List.take N (List.drop 4 (cbs l))) := HSD.out
      have hse : Sees (w1.drewN nq) B (Option.map (fun x => x.add (4 + N)) A) 4 (List.take 4 (List.drop (4 + N) (cbs l))) := HSE.out
      have hd1 : List.take N (List.drop 4 (cbs l)) = cbs (List.take N (List.drop 4 l)) := by simp [cbs, List.map_take, List.map_drop]
      have hd2 : List.take 4 (List.drop (4 + N) (cbs l)) = cbs (List.take 4 (List.drop (4 + N) l)) := by simp [cbs, List.map_take, List.map_drop]
      rw [hd1] at hsd
      rw [hd2] at hse
      have hb2 := below_drewN hb1 nq
      have hB2 : B ≤ (w1.drewN nq).heap.size := hB1
      have hpl : (List.take N (List.drop 4 l)).length = N := by rw [List.length_take, List.length_drop, HLEN.out]; omega
      have HPL := Lib.hid hpl
      clear hd1 hd2 hs1 hb1 hB1 HSD HSE HLEN hpl
      generalize w1.drewN nq = w2 at *
      generalize List.take N (List.drop 4 l) = p at *
      generalize List.take 4 (List.drop (4 + N) l) = q at *
      rw [show 4 + N - 4 = N from by omega, show N + 8 - (4 + N) = 4 from by omega]
      generalize Option.map (fun x => ({ block := x.block, off := x.off + 4 } : Addr)) A = A1 at *
      generalize Option.map (fun x => x.add (4 + N)) A = A2 at *
      have hN : N ≤ 9223372036854775807 := by omega
      have hcl : N ≤ 140737488355328 := by omega
      have HSZ := Lib.hid hsz
      clear hsz hsz' hmx hn4 hnN
      go_wp2_with fail
      refine (check_any A1 A2 N (c - 4) 4 (c - (4 + N)) p q B B w2 hsd hB2 hse hB2 hN).mono ?_
      rintro e w3 ⟨rfl, hb3⟩
      have hs3 := hsd.keep (w' := w3) (fun p hp => hb3.cell (by omega))
      have hB3 : B ≤ w3.heap.size := Nat.le_trans hB2 hb3.size
      have hb4 := hb2.trans (hb3.mono hb2.size)
      by_cases hq : le4 (crcOf p) = q
      · have hT := HTT.out
        rw [if_pos hq] at hT
        have hqb : (le4 (crcOf p) == q) = true := by rw [beq_iff_eq]; exact hq
        rw [hqb]
        have HTU := Lib.hid hT
        clear hT HTT hqb hq
        go_wp2_with fail
        refine (bclone_any A1 N (c - 4) p B w3 hs3 hB3 hcl).mono ?_
        rintro e w5 ⟨A5, c5, rfl, hf5, hb5⟩
        go_wp2_with fail
        go_ret3
        have hpl := HPL.out
        rw [HTU.out]
        exact ⟨A5, c5, by simp only [hpl]; rfl, by simp only [hpl]; exact hf5.mono hb4.size, bthen hb4 hb5⟩
      · have hT := HTT.out
        rw [if_neg hq] at hT
        have hqb : (le4 (crcOf p) == q) = false := by rw [beq_eq_false_iff_ne]; exact hq
        rw [hqb]
        have HTU := Lib.hid hT
        clear hT HTT hqb hq
        go_wp2_with fail
        go_ret3
        exact TakeRet.none_ HTU.out rfl hb4
  · have hE' : ¬ (E : Int) = 0 := by omega
    have hE2 : ((E : Int) == 0) = false := by rw [beq_eq_false_iff_ne]; exact hE'
    have hT := HT.out
    rw [if_pos hE] at hT
    have HTT := Lib.hid hT
    clear hT HT HL
    go_wp2_with fail
    go_ret3
    exact TakeRet.none_ HTT.out rfl hb1

/-- what Whole answers -/
def WholeRet (w : World) (t : List UInt8 × Nat) (e : Ending) (w' : World) : Prop :=
  ∃ A c, e = .returned (.tuple #[.slice A t.1.length c, .int .i64 (t.2 : Int)]) ∧ Free w' w.heap.size 5 A t.1.length c (cbs t.1) ∧ Below w.heap.size w w'
theorem WholeRet.none_ {w w' : World} {e : Ending} {t : List UInt8 × Nat} {k : Nat} (ht : t = ([], k)) (he : e = .returned (.tuple #[.slice none 0 0, .int .i64 (k : Int)])) (hb : Below w.heap.size w w') : WholeRet w t e w' := by
  subst ht
  exact ⟨none, 0, he, Free.nil _ _ _, hb⟩

end Go.Proofs.Ytlggkeoihpcdiaa

/- The walks of the document's own Put and Take (kissinggateref03), and of frame.Put. -/
namespace Go.Proofs.Ytlggkeoihpcdiaa
open Go.RowKit

/-- what Put answers: just these bytes -/
def Bytes (w : World) (l : List UInt8) (e : Ending) (w' : World) : Prop :=
  ∃ A c, e = .returned (.slice A l.length c) ∧ Free w' w.heap.size 5 A l.length c (cbs l) ∧ Below w.heap.size w w'

theorem hd_free (n : Nat) (w : World) : Free (w.alloc (.cells #[Value.int .u8 ((n : Int) / 256 % 256), Value.int .u8 ((n : Int) % 256), Value.int .u8 (255 - (n : Int) / 256 % 256), Value.int .u8 (255 - (n : Int) % 256)] 5)) w.heap.size 5 (some ⟨w.heap.size, 0, none⟩) 4 4 (cbs (hd n)) := by
  rw [← hd_cells n]
  exact free_new w (cbs (hd n)).toArray 5 (by show 4 ≤ maxLen; decide)

/-- what Put answers, where the payload isn't too long -/
def PutRet (w : World) (l : List UInt8) (e : Ending) (w' : World) : Prop :=
  ∃ A c, e = .returned (.tuple #[.slice A l.length c, .int .i64 0]) ∧ Free w' w.heap.size 5 A l.length c (cbs l) ∧ Below w.heap.size w w'

set_option maxRecDepth 100000 in
set_option maxHeartbeats 400000 in
/-- frame.Put, of a payload that is too long -/
theorem put_long (v : Value) (A : Option Addr) (n c : Nat) (w : World) (hn : 4096 < n) :
    Calls Try.prog 99 #[v, .slice A n c] w fun e w' => e = .returned (.tuple #[.slice none 0 0, .int .i64 4]) ∧ w' = w := by
  have hn' : (4096 : Int) < (n : Int) := by omega
  go_enter Try.func99, Try.ntmps99
  go_wp2_with fail
  go_ret2
  exact ⟨rfl, rfl⟩

set_option maxRecDepth 100000 in
set_option maxHeartbeats 800000 in
/-- frame.Put -/
theorem put_any (A0 : Option Addr) (n0 c0 : Nat) (l0 : List UInt8) (A : Option Addr) (n c : Nat) (l : List UInt8) (w : World) (hs0 : Sees w w.heap.size A0 n0 (cbs l0)) (hs : Sees w w.heap.size A n (cbs l)) (hn : n ≤ 4096) (hn0 : n0 ≤ 70368744177664) :
    Calls Try.prog 99 #[.slice A0 n0 c0, .slice A n c] w (PutRet w (l0 ++ frameOf l)) := by
  have hlen : l.length = n := by have := hs.1; simpa using this
  have hlen0 : l0.length = n0 := by have := hs0.1; simpa using this
  have hfe : l0 ++ frameOf l = l0 ++ (hd n ++ (l ++ le4 (crcOf l))) := by unfold frameOf; rw [hlen]
  have hcr := crc_lt l
  have HE := Lib.hid hfe
  have HLEN := Lib.hid hlen
  have HLEN0 := Lib.hid hlen0
  clear hfe hlen hlen0
  have hn' : ¬ (4096 : Int) < (n : Int) := by omega
  go_enter Try.func99, Try.ntmps99
  go_wp2_with fail
  refine (head_any n w (by omega)).mono ?_
  rintro e w1 ⟨rfl, rfl⟩
  have hh1 := sees_new w (cbs (hd n)).toArray 5
  have hs1 := hs.past (.cells (cbs (hd n)).toArray 5)
  have hs01 := hs0.past (.cells (cbs (hd n)).toArray 5)
  have hb1 := (Below.refl w.heap.size w).alloc (Nat.le_refl _) (.cells (cbs (hd n)).toArray 5)
  generalize hg0 : w.heap.size = g0 at *
  generalize w.alloc (.cells (cbs (hd n)).toArray 5) = w1 at *
  go_wp2_with fail
  refine (of_any A n c l w1.heap.size w1 hs1 (by omega)).mono ?_
  rintro e w1 ⟨rfl, rfl⟩
  go_wp2_with fail
  refine (bytes_any (crcOf l) w1 hcr).mono ?_
  rintro e w2 ⟨rfl, rfl⟩
  have hc2 := le4_sees w1 (crcOf l)
  have hh2 := hh1.past (.cells (cbs (le4 (crcOf l))).toArray 5)
  have hs2 := hs1.past (.cells (cbs (le4 (crcOf l))).toArray 5)
  have hs02 := hs01.past (.cells (cbs (le4 (crcOf l))).toArray 5)
  have hb2 := hb1.alloc (B := g0) (by have := hb1.size; omega) (.cells (cbs (le4 (crcOf l))).toArray 5)
  clear hh1 hs1 hs01 hb1
  generalize hg1 : w1.heap.size = g1 at *
  generalize w1.alloc (.cells (cbs (le4 (crcOf l))).toArray 5) = w2 at *
  go_wp2_with fail
  refine (concat_any _ 4 4 [⟨A0, n0, c0, l0⟩, ⟨some ⟨g0, 0, none⟩, 4, 4, hd n⟩, ⟨A, n, c, l⟩, ⟨some ⟨g1, 0, none⟩, 4, 4, le4 (crcOf l)⟩] _ (sees_new w2 _ _) ?_ ?_ (by omega)).mono ?_
  · intro p hp
    simp only [List.mem_cons, List.not_mem_nil, or_false] at hp
    rcases hp with rfl | rfl | rfl | rfl
    · exact hs02.past _
    · exact hh2.past _
    · exact hs2.past _
    · exact hc2.past _
  · have h1 := HLEN.out
    have h2 := HLEN0.out
    simp [cat, hd_length, le4_length]
    omega
  rintro e w3 ⟨v, rfl, hown, hb3⟩
  obtain ⟨A3, c3, rfl, _, _⟩ := own_form hown
  have hcat : cat [⟨A0, n0, c0, l0⟩, ⟨some ⟨g0, 0, none⟩, 4, 4, hd n⟩, ⟨A, n, c, l⟩, ⟨some ⟨g1, 0, none⟩, 4, 4, le4 (crcOf l)⟩] = l0 ++ frameOf l := by rw [HE.out]; simp [cat]
  rw [hcat] at hown ⊢
  clear hcat
  generalize l0 ++ frameOf l = L at *
  have hbz := hb2.size
  go_wp2_with fail
  go_ret2
  subst hg0
  exact ⟨A3, c3, rfl, (Free.of_own hown).mono (by simp; omega), (hb2.alloc (by omega) _).trans (hb3.mono (by simp; omega))⟩

theorem w64_in (z : Int) (h1 : -9223372036854775808 ≤ z) (h2 : z < 9223372036854775808) : wrap64 z = z := by unfold wrap64; omega
theorem sum_cell (x y : UInt8) : (((x.toNat : Int) + (y.toNat : Int)) % 256 == 255) = decide (x + y = 255) := by
  have hx := UInt8.toNat_lt x
  have hy := UInt8.toNat_lt y
  rw [Bool.eq_iff_iff, beq_iff_eq, decide_eq_true_iff, ← UInt8.toNat_inj, UInt8.toNat_add]
  have : (255 : UInt8).toNat = 255 := rfl
  rw [this]
  omega
/-- the bytes at the beginning are the payload's frame just if the sum behind is the payload's -/
theorem frame_same {b : List UInt8} (h : (lenF b).2 = 0) (hl : (lenF b).1 + 8 ≤ b.length) :
    (frameOf ((b.drop 4).take (lenF b).1) = b.take ((lenF b).1 + 8)) ↔ le4 (crcOf ((b.drop 4).take (lenF b).1)) = (b.drop (4 + (lenF b).1)).take 4 := by
  have h4 := lenF_head h
  generalize (lenF b).1 = N at *
  have hpl : ((b.drop 4).take N).length = N := by rw [List.length_take, List.length_drop]; omega
  have e : b.take (N + 8) = hd N ++ ((b.drop 4).take N ++ (b.drop (4 + N)).take 4) := by
    rw [← h4, show N + 8 = 4 + (N + 4) from by omega, List.take_add, List.take_add (i := N), List.drop_drop]
  rw [e]
  unfold frameOf
  rw [hpl]
  constructor
  · intro h
    exact List.append_cancel_left (List.append_cancel_left h)
  · intro h
    rw [h]
end Go.Proofs.Ytlggkeoihpcdiaa

/- The walk of the document's own Take (kissinggateref03). -/
namespace Go.Proofs.Ytlggkeoihpcdiaa
open Go.RowKit

end Go.Proofs.Ytlggkeoihpcdiaa

/- The walks of frame.All and of the document's own All, and of the statements' comparison of rows. -/
namespace Go.Proofs.Ytlggkeoihpcdiaa
open Go.RowKit

theorem sl_row : (Try.prog.info? 27).map (fun i => (i.zero, i.size, i.bytes)) = some (some (.slice none 0 0), 1, 24) := by kernel_rfl
theorem ssl_u8 : Try.prog.underlying 145 = some (.slice 27) := Try.underlying145

/-- a row of slices of bytes, all of them in rows from block `base` on -/
def Rows (w : World) (base : Nat) (A : Option Addr) (c : Nat) (ps : List Part) : Prop :=
  Free w base 27 A ps.length c (ps.map Part.v) ∧ ∀ p ∈ ps, Free w base 5 p.A p.n p.c (cbs p.l)
theorem parts_one (ps : List Part) : ∀ u ∈ ps.map Part.v, u.oneCell' = true := by
  intro u hu
  obtain ⟨x, _, rfl⟩ := List.mem_map.1 hu
  rfl
theorem Rows.on {w w' : World} {base : Nat} {A : Option Addr} {c : Nat} {ps : List Part} (h : Rows w base A c ps) (hb : Below w.heap.size w w') : Rows w' base A c ps :=
  ⟨h.1.on hb, fun p hp => (h.2 p hp).on hb⟩
/-- what All answers -/
def AllRet (w : World) (r : List (List UInt8) × Nat × Nat) (e : Ending) (w' : World) : Prop :=
  ∃ A c ps, e = .returned (.tuple #[.slice A ps.length c, .int .i64 (r.2.1 : Int), .int .i64 (r.2.2 : Int)]) ∧ ps.map (·.l) = r.1 ∧ Rows w' w.heap.size A c ps ∧ Below w.heap.size w w'

set_option maxRecDepth 100000 in
set_option maxHeartbeats 1600000 in
/-- frame.All -/
theorem all_any (A : Option Addr) (n c : Nat) (l : List UInt8) (w : World) (hs : Sees w w.heap.size A n (cbs l)) (hc : n ≤ c) (hm : c ≤ maxLen) (hn : n ≤ 1099511627776) :
    Calls Try.prog 100 #[.slice A n c] w (AllRet w (allF l.length l)) := by
  have hlen : l.length = n := by have := hs.1; simpa using this
  obtain ⟨i0, hi0, hz0, hz1, hz2⟩ := info_parts sl_row
  generalize hR : allF l.length l = R at *
  have HR := Lib.hid hR
  have HLEN := Lib.hid hlen
  have HS := Lib.hid hs
  have HM := Lib.hid hm
  clear hR hlen hs hm
  go_enter Try.func100, Try.ntmps100
  go_wp2_with fail
  go_loopw [5, 6] (fun v e wr => ∃ (ps : List Part) (k : Nat) (A' : Option Addr) (c' : Nat), v = .slice A' ps.length c' ∧ e = .int .i64 (k : Int) ∧ Upto l (ps.map (·.l)) k ∧ Rows wr w.heap.size A' c' ps ∧ Below w.heap.size w wr) (fun _ e _ => n - (intOf e).toNat)
  case atStart => exact ⟨[], 0, none, 0, rfl, rfl, Upto.start l, ⟨Free.nil _ _ _, fun p hp => by cases hp⟩, Below.refl _ _⟩
  case round =>
    obtain ⟨ps, k, A', c', rfl, rfl, hup, hrow, hbel⟩ := hrel
    have hkn : k ≤ n := by have := hup.1; have := HLEN.out; omega
    by_cases hlt : k < n
    · have hlt' : (k : Int) < (n : Int) := by omega
      have hck : ¬ c = k := by omega
      have hsr := HS.out.below hbel
      have hdr := hsr.drop (k := k) hkn hc
      rw [if_neg hck] at hdr
      have hd1 : (cbs l).drop k = cbs (l.drop k) := by simp [cbs]
      rw [hd1] at hdr
      have hB : w.heap.size ≤ wr.heap.size := hbel.size
      have hc1 : n - k ≤ c - k := by omega
      have hm1 : c - k ≤ maxLen := Nat.le_trans (Nat.sub_le _ _) HM.out
      have hn1 : n - k ≤ 140737488355328 := by omega
      have HT := Lib.hid (take_any (A.map (·.add k)) (n - k) (c - k) (l.drop k) w.heap.size wr hdr hB hc1 hm1 hn1)
      have HUP := Lib.hid hup
      have HROW := Lib.hid hrow
      clear hdr hd1 hc1 hm1 hn1 hsr hup hrow
      go_wp2_with fail
      refine HT.out.mono ?_
      rintro e w1 ⟨A1, c1, rfl, hf1, hb1⟩
      have hlk : k < l.length := by rw [HLEN.out]; exact hlt
      have hrow1 := HROW.out.on hb1
      have hbel1 := bthen hbel hb1
      by_cases hE : (takeF (l.drop k)).e = 0
      · have hup1 := HUP.out.next hlk hE
        have hbd := HUP.out.2.1
        have hkk := (takeF_some _ hE).2.1
        have hm0 := (takeF_some _ hE).1
        rw [List.length_drop] at hkk
        have HUP1 := Lib.hid hup1
        generalize takeF (l.drop k) = T at *
        obtain ⟨p, m, E⟩ := T
        simp only at hE hkk hf1 hm0
        subst hE
        have hm00 : 0 < m := by omega
        clear hm0
        have hps : 8 * ps.length ≤ k := by simp only [List.length_map] at hbd; omega
        have hkn2 : k + m ≤ n := by have := HLEN.out; omega
        have hm2 : ps.length + 1 ≤ maxLen := by unfold maxLen; omega
        have hm3 : (ps.length + 1) * 24 ≤ 140737488355328 := by omega
        have hf2 := (hf1.mono hB).alloc (.cells #[.slice A1 p.length c1] 27)
        have hrow2 : Rows (w1.alloc (.cells #[.slice A1 p.length c1] 27)) w.heap.size A' c' ps := hrow1.on ((Below.refl _ _).alloc (Nat.le_refl _) _)
        have hbel2 := hbel1.alloc hbel1.size (.cells #[.slice A1 p.length c1] 27)
        have hsr2 := sees_new w1 #[.slice A1 p.length c1] 27
        have hz3 := hbel2.size
        have hz4 := hb1.size
        clear hup1 hbd hrow1 hbel1 hf1 HUP HROW HT hkk
        go_wp2_with (at_builtin; refine wpList_append_free _ rfl (.tmp 27) (.tmp 29) _ rfl w.heap.size 27 i0 _ 24 ssl_u8 hi0 hz0 hz1 hz2 rfl A' ps.length c' (ps.map Part.v) rfl hrow2.1 (parts_one ps) _ _ 1 1 [.slice A1 p.length c1] rfl hsr2 (by simp [Value.oneCell']) hm2 hm3 hz3 ?_
                     intro A3 c3 w3 ha
                     have hrow3 : Rows w3 w.heap.size A3 c3 (ps ++ [⟨A1, p.length, c1, p⟩]) := ⟨by rw [List.length_append, List.map_append]; exact ha.1, fun q hq => by
                       rcases List.mem_append.1 hq with h | h
                       · exact ha.across hrow2.1 (by decide) (hrow2.2 q h)
                       · rw [List.mem_singleton.1 h]; exact ha.across hrow2.1 (by decide) hf2⟩
                     have hbel3 := ha.below hrow2.1 hbel2 hz3 (Nat.le_refl _)
                     clear ha hf2 hrow2 hbel2 hsr2)
        go_roundw
        case rel => exact ⟨ps ++ [⟨A1, p.length, c1, p⟩], k + m, A3, c3, by simp, by go_num, by have := HUP1.out; simpa using this, hrow3, hbel3⟩
        case measure => simp [intOf]; omega
      · have hfa := HUP.out.fault hlk hE
        have hE' : ¬ ((takeF (l.drop k)).e : Int) = 0 := by omega
        have hE2 : (((takeF (l.drop k)).e : Int) == 0) = false := by rw [beq_eq_false_iff_ne]; exact hE'
        rw [HR.out] at hfa
        have HFA := Lib.hid hfa
        clear hfa HUP HROW HT hE
        generalize takeF (l.drop k) = T at *
        go_wp2_with fail
        go_ret3
        rw [HFA.out]
        exact ⟨A', c', ps, rfl, rfl, hrow1, hbel1⟩
    · have hkn' : k = n := by omega
      have hst := hup.stop (by rw [HLEN.out]; exact hkn')
      rw [HR.out] at hst
      have HST := Lib.hid hst
      have hlt' : ¬ (k : Int) < (n : Int) := by omega
      clear hst hup
      subst hkn'
      go_wp2_with fail
      go_ret3
      rw [HST.out]
      exact ⟨A', c', ps, rfl, rfl, hrow, hbel⟩

/-- an element of such a row -/
theorem rows_at {w : World} {base : Nat} {A : Option Addr} {c : Nat} {ps : List Part} (h : Rows w base A c ps) {j : Nat} (hj : j < ps.length) :
    ∃ b off A1 n1 c1 l1, A = some ⟨b, off, none⟩ ∧ b < w.heap.size ∧ ps[j]? = some ⟨A1, n1, c1, l1⟩ ∧ w.cell? ⟨b, off + j, none⟩ = some (.slice A1 n1 c1) ∧ Sees w w.heap.size A1 n1 (cbs l1) := by
  obtain ⟨b, off, u, hA, _, hb, hu, hc, _⟩ := h.1.at_ hj
  have hm := List.getElem?_eq_getElem hj
  rw [List.getElem?_map, hm] at hu
  simp only [Option.map_some, Option.some.injEq, Part.v] at hu
  subst hu
  exact ⟨b, off, _, _, _, _, hA, hb, hm, hc, (h.2 _ (List.getElem_mem hj)).sees⟩

/-! ### the contracts where the answer is known -/
theorem TakeRet.at {w w' : World} {t : TK} {e : Ending} {p : List UInt8} {n k m : Nat} (h : TakeRet w t e w') (ht : t = ⟨p, n, k⟩) (hm : p.length = m) :
    ∃ A c, e = .returned (.tuple #[.slice A m c, .int .i64 (n : Int), .int .i64 (k : Int)]) ∧ Free w' w.heap.size 5 A m c (cbs p) ∧ Below w.heap.size w w' := by
  subst ht
  subst hm
  exact h
theorem WholeRet.at {w w' : World} {t : List UInt8 × Nat} {e : Ending} {p : List UInt8} {k m : Nat} (h : WholeRet w t e w') (ht : t = (p, k)) (hm : p.length = m) :
    ∃ A c, e = .returned (.tuple #[.slice A m c, .int .i64 (k : Int)]) ∧ Free w' w.heap.size 5 A m c (cbs p) ∧ Below w.heap.size w w' := by
  subst ht
  subst hm
  exact h
theorem PutRet.at {w w' : World} {l p : List UInt8} {e : Ending} {m : Nat} (h : PutRet w l e w') (ht : l = p) (hm : p.length = m) :
    ∃ A c, e = .returned (.tuple #[.slice A m c, .int .i64 0]) ∧ Free w' w.heap.size 5 A m c (cbs p) ∧ Below w.heap.size w w' := by
  subst ht
  subst hm
  exact h
theorem Bytes.at {w w' : World} {l p : List UInt8} {e : Ending} {m : Nat} (h : Bytes w l e w') (ht : l = p) (hm : p.length = m) :
    ∃ A c, e = .returned (.slice A m c) ∧ Free w' w.heap.size 5 A m c (cbs p) ∧ Below w.heap.size w w' := by
  subst ht
  subst hm
  exact h
theorem AllRet.at {w w' : World} {r : List (List UInt8) × Nat × Nat} {e : Ending} {l : List (List UInt8)} {n k m : Nat} (h : AllRet w r e w') (ht : r = (l, n, k)) (hm : l.length = m) :
    ∃ A c ps, e = .returned (.tuple #[.slice A m c, .int .i64 (n : Int), .int .i64 (k : Int)]) ∧ ps.map (·.l) = l ∧ ps.length = m ∧ Rows w' w.heap.size A c ps ∧ Below w.heap.size w w' := by
  subst ht
  obtain ⟨A, c, ps, he, hl, hr⟩ := h
  have hpm : ps.length = m := by rw [← hm]; have := congrArg List.length hl; simpa using this
  exact ⟨A, c, ps, by rw [← hpm]; exact he, hl, hpm, hr⟩
end Go.Proofs.Ytlggkeoihpcdiaa

/- The walks of package disk: bytes, the first so many of which are synced. -/
namespace Go.Proofs.Ytlggkeoihpcdiaa
open Go.RowKit

/-- the disk that lies in block g: all its bytes, and how many are synced; what it has lies from block `base` on -/
def Dsk (w : World) (base g : Nat) (all : List UInt8) (s : Nat) : Prop :=
  ∃ A c, Blk w g 101 #[.slice A all.length c, .int .i64 (s : Int)] ∧ base ≤ g ∧ Free w base 5 A all.length c (cbs all) ∧ s ≤ all.length
theorem Dsk.lt {w : World} {base g s : Nat} {all : List UInt8} (h : Dsk w base g all s) : g < w.heap.size := by
  obtain ⟨A, c, h1, _⟩ := h
  exact h1.lt
theorem Dsk.on {w w' : World} {base g s : Nat} {all : List UInt8} (h : Dsk w base g all s) (hb : Below w.heap.size w w') : Dsk w' base g all s := by
  obtain ⟨A, c, h1, h2, h3, h4⟩ := h
  exact ⟨A, c, h1.below hb h1.lt, h2, h3.on hb, h4⟩
theorem Dsk.drew {w : World} {base g s : Nat} {all : List UInt8} (h : Dsk w base g all s) : Dsk w.drew base g all s := h
theorem Dsk.drewN {w : World} {base g s : Nat} {all : List UInt8} (h : Dsk w base g all s) (k : Nat) : Dsk (w.drewN k) base g all s := h
theorem Dsk.alloc {w : World} {base g s : Nat} {all : List UInt8} (h : Dsk w base g all s) (o : Obj) : Dsk (w.alloc o) base g all s := h.on ((Below.refl _ _).alloc (Nat.le_refl _) o)

/-- a disk's row lies in another block than the disk -/
theorem free_apart {w : World} {base g n c : Nat} {A : Option Addr} {xs : List Value} {cs : Array Value} (hb : Blk w g 101 cs) (h : Free w base 5 A n c xs) : 0 < c → ∀ a, A = some a → a.block ≠ g := by
  intro hc a ha e
  obtain ⟨g', off, cur, hA, _, hB, _⟩ := h.2.2.2 hc
  rw [hA] at ha
  injection ha with ha
  subst ha
  simp only at e
  subst e
  unfold Blk at hb hB
  rw [hb] at hB
  injection hB with hB
  injection hB with _ ht
  exact absurd ht (by decide)
/-- .. so a cell of the disk may be stored -/
theorem free_store {w : World} {base g n c k : Nat} {A : Option Addr} {xs : List Value} {cs : Array Value} (hb : Blk w g 101 cs) (h : Free w base 5 A n c xs) (u : Value) : Free (w.setCell ⟨g, k, none⟩ u) base 5 A n c xs := by
  by_cases hc : 0 < c
  · exact h.far (fun a ha _ => free_apart hb h hc a ha) u
  · exact ⟨h.1, h.2.1, h.2.2.1, fun hp => absurd hp hc⟩

set_option maxRecDepth 100000 in
set_option maxHeartbeats 400000 in
/-- disk.New -/
theorem dNew_any (w : World) :
    Calls Try.prog 20 #[] w fun e w' => e = .returned (.pointer (some ⟨w.heap.size, 0, none⟩)) ∧ Dsk w' w.heap.size w.heap.size [] 0 ∧ Below w.heap.size w w' := by
  go_enter Try.func20, Try.ntmps20
  go_wp2_with fail
  go_ret
  exact ⟨rfl, ⟨none, 0, Blk.new w _ _, Nat.le_refl _, Free.nil _ _ _, Nat.le_refl _⟩, (Below.refl _ _).alloc (Nat.le_refl _) _⟩

set_option maxRecDepth 100000 in
set_option maxHeartbeats 400000 in
/-- (*disk.Disk).Synced -/
theorem dSynced_any (base g s : Nat) (all : List UInt8) (w : World) (h : Dsk w base g all s) :
    Calls Try.prog 75 #[.pointer (some ⟨g, 0, none⟩)] w fun e w' => e = .returned (.int .i64 (s : Int)) ∧ w' = w := by
  obtain ⟨A, c, hb, _⟩ := h
  have c1 : w.cell? ⟨g, 1, none⟩ = some (.int .i64 (s : Int)) := by rw [hb.cell]; rfl
  clear hb
  go_enter Try.func75, Try.ntmps75
  go_wp2_with fail
  go_ret
  exact ⟨rfl, rfl⟩
set_option maxRecDepth 100000 in
theorem dSynced_nil (w : World) :
    Calls Try.prog 75 #[.pointer none] w fun e w' => e = .returned (.int .i64 0) ∧ w' = w := by
  go_enter Try.func75, Try.ntmps75
  go_wp2_with fail
  go_ret
  exact ⟨rfl, rfl⟩

set_option maxRecDepth 100000 in
set_option maxHeartbeats 400000 in
/-- (*disk.Disk).Bytes -/
theorem dBytes_any (base g s : Nat) (all : List UInt8) (w : World) (h : Dsk w base g all s) (hn : all.length ≤ 140737488355328) :
    Calls Try.prog 74 #[.pointer (some ⟨g, 0, none⟩)] w fun e w' => ∃ A c, e = .returned (.slice A all.length c) ∧ Free w' w.heap.size 5 A all.length c (cbs all) ∧ Below w.heap.size w w' := by
  obtain ⟨A, c, hb, _, hf, _⟩ := h
  have c0 : w.cell? ⟨g, 0, none⟩ = some (.slice A all.length c) := by rw [hb.cell]; rfl
  clear hb
  have HB := Lib.hid (bclone_any A all.length c all _ w hf.sees (Nat.le_refl _) hn)
  clear hf
  go_enter Try.func74, Try.ntmps74
  go_wp2_with (go_at_call 102; refine HB.out.mono ?_; rintro e w1 ⟨A1, c1, rfl, hf1, hb1⟩)
  go_ret
  exact ⟨A1, c1, rfl, hf1, hb1⟩
set_option maxRecDepth 100000 in
theorem dBytes_nil (w : World) :
    Calls Try.prog 74 #[.pointer none] w fun e w' => e = .returned (.slice none 0 0) ∧ w' = w := by
  go_enter Try.func74, Try.ntmps74
  go_wp2_with fail
  go_ret
  exact ⟨rfl, rfl⟩

set_option maxRecDepth 100000 in
set_option maxHeartbeats 400000 in
/-- (*disk.Disk).Sync -/
theorem dSync_any (base g s : Nat) (all : List UInt8) (w : World) (h : Dsk w base g all s) :
    Calls Try.prog 21 #[.pointer (some ⟨g, 0, none⟩)] w fun e w' => e = .returned (.int .i64 0) ∧ Dsk w' base g all all.length ∧ Below base w w' := by
  obtain ⟨A, c, hb, hg, hf, hs⟩ := h
  have c0 : w.cell? ⟨g, 0, none⟩ = some (.slice A all.length c) := by rw [hb.cell]; rfl
  have f1 := hb.frozen 1
  have c1 : w.cell? ⟨g, 1, none⟩ = some (.int .i64 (s : Int)) := by rw [hb.cell]; rfl
  have HB := Lib.hid (hb.set_ 1 (.int .i64 (all.length : Int)))
  have HF := Lib.hid (free_store (k := 1) hb hf (.int .i64 (all.length : Int)))
  clear hb hf hs
  go_enter Try.func21, Try.ntmps21
  go_wp2_with fail
  go_ret
  exact ⟨rfl, ⟨A, c, HB.out, hg, HF.out, Nat.le_refl _⟩, (Below.refl base w).setCell (by simpa using hg) _⟩
set_option maxRecDepth 100000 in
theorem dSync_nil (w : World) :
    Calls Try.prog 21 #[.pointer none] w fun e w' => e = .returned (.int .i64 1) ∧ w' = w := by
  go_enter Try.func21, Try.ntmps21
  go_wp2_with fail
  go_ret
  exact ⟨rfl, rfl⟩

/-- the bytes behind a writing, if there aren't too many -/
def writeF (all l : List UInt8) : List UInt8 × Nat := if 1048576 < all.length + l.length then (all, 7) else (all ++ l, 0)

set_option maxRecDepth 100000 in
set_option maxHeartbeats 800000 in
/-- (*disk.Disk).Write -/
theorem dWrite_any (base g s : Nat) (all : List UInt8) (A2 : Option Addr) (m c2 : Nat) (l : List UInt8) (w : World) (h : Dsk w base g all s) (hs2 : Sees w w.heap.size A2 m (cbs l)) (hm : m ≤ 140737488351232) (hz : base ≤ w.heap.size) (hall : all.length ≤ 1048576) :
    Calls Try.prog 72 #[.pointer (some ⟨g, 0, none⟩), .slice A2 m c2] w fun e w' => e = .returned (.int .i64 ((writeF all l).2 : Int)) ∧ Dsk w' base g (writeF all l).1 s ∧ Below base w w' := by
  have HD := Lib.hid h
  obtain ⟨A, c, hb, hg, hf, hs⟩ := h
  have hlen : l.length = m := by have := hs2.1; simpa using this
  have c0 : w.cell? ⟨g, 0, none⟩ = some (.slice A all.length c) := by rw [hb.cell]; rfl
  have hW : writeF all l = if 1048576 < all.length + m then (all, 7) else (all ++ l, 0) := by unfold writeF; rw [hlen]
  rw [hW]
  clear hW
  by_cases hbig : 1048576 < all.length + m
  · rw [if_pos hbig]
    have hb1 : (1048576 : Int) - (all.length : Int) < (m : Int) := by omega
    clear hb hf hs
    go_enter Try.func72, Try.ntmps72
    go_wp2_with fail
    go_ret
    exact ⟨rfl, HD.out, Below.refl _ _⟩
  · rw [if_neg hbig]
    have hb1 : ¬ (1048576 : Int) - (all.length : Int) < (m : Int) := by omega
    obtain ⟨i0, hi0, hy0, hy1, hy2⟩ := info_parts u8_row
    have hm1 : all.length + m ≤ maxLen := Nat.le_trans (show all.length + m ≤ 140737488355328 by omega) (by decide)
    have hm2 : (all.length + m) * 1 ≤ 140737488355328 := by omega
    have HB := Lib.hid hb
    have HLEN := Lib.hid hlen
    have HG := Lib.hid hg
    have HS := Lib.hid hs
    clear hb hlen hbig HD hg hs
    go_enter Try.func72, Try.ntmps72
    go_wp2_with (at_builtin; refine wpList_append_free _ rfl (.tmp 20) (.tmp 21) _ rfl base 5 i0 _ 1 sl_u8 hi0 hy0 hy1 hy2 rfl A all.length c (cbs all) rfl hf (cbs_one _) _ A2 m c2 (cbs l) rfl hs2 (cbs_one _) hm1 hm2 hz ?_
                 intro A3 c3 w3 ha
                 have hf3 := ha.1
                 have hb3 := ha.below hf (Below.refl base w) hz (Nat.le_refl _)
                 have hblk3 : Blk w3 g 101 #[.slice A all.length c, .int .i64 (s : Int)] := (by
                   rcases ha.row hf with hgr | ⟨q, cur, _, hq, hgr⟩
                   · exact HB.out.grown hgr (by simp)
                   · refine HB.out.grown hgr (fun e => ?_)
                     injection e with e
                     subst e
                     have h1 := HB.out
                     unfold Blk at h1 hq
                     rw [h1] at hq
                     injection hq with hq
                     injection hq with _ ht
                     exact absurd ht (by decide))
                 have d0 : w3.cell? ⟨g, 0, none⟩ = some (.slice A all.length c) := (by rw [hblk3.cell]; rfl)
                 have f0 := hblk3.frozen 0
                 rw [← cbs_append] at hf3
                 have HB3 := Lib.hid (hblk3.set_ 0 (.slice A3 (all.length + m) c3))
                 have HF3 := Lib.hid (free_store (k := 0) hblk3 hf3 (.slice A3 (all.length + m) c3))
                 clear ha hf hs2 hblk3 hf3 c0)
    go_ret
    have e1 : (all ++ l).length = all.length + m := by rw [List.length_append, HLEN.out]
    exact ⟨rfl, ⟨A3, c3, by rw [e1]; exact HB3.out, HG.out, by rw [e1]; exact HF3.out, by rw [e1]; have := HS.out; omega⟩, hb3.setCell (by simpa using HG.out) _⟩
set_option maxRecDepth 100000 in
theorem dWrite_nil (v : Value) (w : World) :
    Calls Try.prog 72 #[.pointer none, v] w fun e w' => e = .returned (.int .i64 1) ∧ w' = w := by
  go_enter Try.func72, Try.ntmps72
  go_wp2_with fail
  go_ret
  exact ⟨rfl, rfl⟩
end Go.Proofs.Ytlggkeoihpcdiaa

/- The walks of package disk: what is cut, spoilt, and lost. -/
namespace Go.Proofs.Ytlggkeoihpcdiaa
open Go.RowKit

/-- the byte at a place is turned -/
def turn (l : List UInt8) (i : Nat) (y : UInt8) : List UInt8 := l.set i (l.getD i 0 ^^^ y)
theorem turn_length (l : List UInt8) (i : Nat) (y : UInt8) : (turn l i y).length = l.length := by simp [turn]
theorem xor_byte (x y : UInt8) : bits BinOp.xor IntKind.u8 (x.toNat : Int) (y.toNat : Int) = ((x ^^^ y).toNat : Int) := by
  rw [u8_xor_nat _ _ (UInt8.toNat_lt x) (UInt8.toNat_lt y), UInt8.toNat_xor]

def cutF (all : List UInt8) (s : Nat) (n : Int) : List UInt8 × Nat × Nat := if n < 0 ∨ (all.length : Int) < n then (all, s, 5) else (all.take n.toNat, n.toNat, 0)
def spoilF (all : List UInt8) (s : Nat) (at_ : Int) (y : UInt8) : List UInt8 × Nat := if at_ < 0 ∨ (s : Int) ≤ at_ then (all, 5) else (turn all at_.toNat y, 0)

set_option maxRecDepth 100000 in
set_option maxHeartbeats 800000 in
/-- (*disk.Disk).Cut -/
theorem dCut_any (base g s : Nat) (all : List UInt8) (n : Int) (w : World) (h : Dsk w base g all s) :
    Calls Try.prog 76 #[.pointer (some ⟨g, 0, none⟩), .int .i64 n] w fun e w' => e = .returned (.int .i64 ((cutF all s n).2.2 : Int)) ∧ Dsk w' base g (cutF all s n).1 (cutF all s n).2.1 ∧ Below base w w' := by
  have HD := Lib.hid h
  obtain ⟨A, c, hb, hg, hf, hs⟩ := h
  have c0 : w.cell? ⟨g, 0, none⟩ = some (.slice A all.length c) := by rw [hb.cell]; rfl
  have c1 : w.cell? ⟨g, 1, none⟩ = some (.int .i64 (s : Int)) := by rw [hb.cell]; rfl
  have f0 := hb.frozen 0
  have f1 := hb.frozen 1
  unfold cutF
  by_cases hneg : n < 0
  · rw [if_pos (Or.inl hneg)]
    clear hb hf hs
    go_enter Try.func76, Try.ntmps76
    go_wp2_with fail
    go_ret
    exact ⟨rfl, HD.out, Below.refl _ _⟩
  · by_cases hbig : (all.length : Int) < n
    · rw [if_pos (Or.inr hbig)]
      clear hb hf hs
      go_enter Try.func76, Try.ntmps76
      go_wp2_with fail
      go_ret
      exact ⟨rfl, HD.out, Below.refl _ _⟩
    · rw [if_neg (fun h => h.elim hneg hbig)]
      obtain ⟨k, rfl⟩ : ∃ k : Nat, n = k := ⟨n.toNat, by omega⟩
      have hk : k ≤ all.length := by omega
      have hkc : k ≤ c := Nat.le_trans hk hf.2.1
      have hsl := fun W => slice_upto A all.length c (k : Int) k rfl hkc W
      have hb1 := hb.set_ 0 (.slice A k c)
      have HB := Lib.hid (hb1.set_ 1 (.int .i64 (k : Int)))
      have HF := Lib.hid (free_store (k := 1) hb1 (free_store (k := 0) hb hf (.slice A k c)) (.int .i64 (k : Int)))
      have HG := Lib.hid hg
      have HK := Lib.hid hk
      clear hb hf hs HD hb1 hg hk
      go_enter Try.func76, Try.ntmps76
      go_wp2_with fail
      go_ret
      have hl : (all.take k).length = k := by rw [List.length_take]; have := HK.out; omega
      have hf3 := HF.out.take HK.out
      have e1 : (cbs all).take k = cbs (all.take k) := by simp [cbs, List.map_take]
      rw [e1] at hf3
      exact ⟨rfl, ⟨A, c, by rw [hl]; exact HB.out, HG.out, by rw [hl]; exact hf3, by rw [hl]; exact Nat.le_refl _⟩, ((Below.refl base w).setCell (by simpa using HG.out) _).setCell (by simpa using HG.out) _⟩

/-- what a crash leaves -/
def crashF (all : List UInt8) (s : Nat) (keep at_ : Int) (y : UInt8) : List UInt8 :=
  if 0 ≤ at_ ∧ at_ < min (max keep 0) ((all.length : Int) - s) then turn (all.take (s + (min (max keep 0) ((all.length : Int) - s)).toNat)) (s + at_.toNat) y
  else all.take (s + (min (max keep 0) ((all.length : Int) - s)).toNat)

set_option maxRecDepth 100000 in
set_option maxHeartbeats 1600000 in
/-- (*disk.Disk).Crash -/
theorem dCrash_any (base g s : Nat) (all : List UInt8) (keep at_ : Int) (y : UInt8) (w : World) (h : Dsk w base g all s) (hall : all.length ≤ 1048576) :
    Calls Try.prog 24 #[.pointer (some ⟨g, 0, none⟩), .int .i64 keep, .int .i64 at_, .int .u8 (y.toNat : Int)] w fun e w' => e = .returned (.int .i64 0) ∧ Dsk w' base g (crashF all s keep at_ y) s ∧ Below base w w' := by
  obtain ⟨A, c, hb, hg, hf, hs⟩ := h
  have c0 : w.cell? ⟨g, 0, none⟩ = some (.slice A all.length c) := by rw [hb.cell]; rfl
  have c1 : w.cell? ⟨g, 1, none⟩ = some (.int .i64 (s : Int)) := by rw [hb.cell]; rfl
  have f0 := hb.frozen 0
  have f1 := hb.frozen 1
  have hw1 : IntKind.i64.wrap ((all.length : Int) - (s : Int)) = (all.length : Int) - (s : Int) := by rw [IntKind.wrap_i64]; omega
  unfold crashF
  obtain ⟨k, hk⟩ : ∃ k : Nat, min (max keep 0) ((all.length : Int) - s) = k := ⟨(min (max keep 0) ((all.length : Int) - s)).toNat, by omega⟩
  have hks : s + k ≤ all.length := by omega
  rw [hk]
  simp only [Int.toNat_natCast]
  have hif : (if (all.length : Int) - (s : Int) < (if keep < 0 then 0 else keep) then (all.length : Int) - (s : Int) else if keep < 0 then 0 else keep) = (k : Int) := by
    rw [← hk]
    split <;> split <;> omega
  have hw2 : IntKind.i64.wrap ((s : Int) + (k : Int)) = (s : Int) + (k : Int) := by rw [IntKind.wrap_i64]; omega
  have hkc : s + k ≤ c := Nat.le_trans hks hf.2.1
  have hsl := fun W => slice_upto A all.length c ((s : Int) + (k : Int)) (s + k) rfl hkc W
  have hcm : all.length ≤ c := hf.2.1
  have hft := hf.take hks
  have e1 : (cbs all).take (s + k) = cbs (all.take (s + k)) := by simp [cbs, List.map_take]
  rw [e1] at hft
  have hl : (all.take (s + k)).length = s + k := by rw [List.length_take]; omega
  have HL := Lib.hid hl
  have HB := Lib.hid hb
  have HF := Lib.hid hft
  have HS := Lib.hid hs
  generalize all.take (s + k) = t at *
  clear hb hf hft e1 hl hs hk
  generalize hR : (if 0 ≤ at_ ∧ at_ < (k : Int) then turn t (s + at_.toNat) y else t) = R
  have HR := Lib.hid hR
  clear hR
  go_enter Try.func24, Try.ntmps24
  go_wp2_with fail
  go_cut [1] (fun t wx => t = .int .i64 (k : Int) ∧ wx = w.drew)
  case first =>
    go_region
    all_goals go_wp2_with fail
    all_goals
      go_meet
      exact ⟨rfl, rfl⟩
  case rest =>
    obtain ⟨rfl, rfl⟩ := hcut
    have hblk : Blk ((w.setCell ⟨g, 0, none⟩ (.slice A (s + k) c)).drew.drew) g 101 #[.slice A (s + k) c, .int .i64 (s : Int)] := HB.out.set_ 0 (.slice A (s + k) c)
    have hfr : Free ((w.setCell ⟨g, 0, none⟩ (.slice A (s + k) c)).drew.drew) base 5 A (s + k) c (cbs t) := free_store (k := 0) HB.out HF.out _
    have hbl : Below base w ((w.setCell ⟨g, 0, none⟩ (.slice A (s + k) c)).drew.drew) := ((Below.refl base w).setCell (p := ⟨g, 0, none⟩) hg _).drew.drew
    have HBK := Lib.hid hblk
    have HFR := Lib.hid hfr
    have HBL := Lib.hid hbl
    clear hblk hfr hbl
    go_wp2_with fail
    go_region
    have hblk := HBK.out
    have hfr := HFR.out
    have hbl := HBL.out
    clear HBK HFR HBL HB HF c0 c1 f0 f1 hsl hif hw1 hkc
    generalize (w.setCell ⟨g, 0, none⟩ (.slice A (s + k) c)).drew.drew = w2 at *
    by_cases ha : 0 ≤ at_ ∧ at_ < (k : Int)
    · have hR := HR.out
      rw [if_pos ha] at hR
      obtain ⟨ha0, ha1⟩ := ha
      obtain ⟨j, rfl⟩ : ∃ j : Nat, at_ = j := ⟨at_.toNat, by omega⟩
      have hj : s + j < s + k := by omega
      simp only [Int.toNat_natCast] at hR
      have HRR := Lib.hid hR
      clear hR HR
      obtain ⟨q, off, u, rfl, hq0, hql, hu, cq, fq⟩ := hfr.at_ hj
      obtain ⟨x, hx⟩ : ∃ x, t[s + j]? = some x := ⟨_, List.getElem?_eq_getElem (by rw [HL.out]; exact hj)⟩
      have hu' : cb x = u := by rw [cbs_get, hx] at hu; simpa using hu
      subst hu'
      unfold cb at cq
      have hxy := xor_byte x y
      have hgd : t.getD (s + j) 0 = x := by rw [List.getD_eq_getElem?_getD, hx]; rfl
      have hqg : g ≠ q := fun e => free_apart hblk hfr (by have := hfr.2.1; omega) _ rfl e.symm
      have hset : (cbs t).set (s + j) (cb (x ^^^ y)) = cbs (turn t (s + j) y) := by unfold turn; rw [hgd]; simp [cbs, List.map_set]
      have hf2 := hfr.put (k := s + j) (cb (x ^^^ y)) hj
      rw [hset] at hf2
      obtain ⟨z, hz⟩ : ∃ z, z = x ^^^ y := ⟨_, rfl⟩
      rw [← hz] at hxy hf2
      have HB2 := Lib.hid (hblk.far (p := ⟨q, off + (s + j), none⟩) hqg (cb z))
      have HF2 := Lib.hid hf2
      have HBL2 := Lib.hid (hbl.setCell (p := ⟨q, off + (s + j), none⟩) hq0 (cb z))
      have c0 : w2.cell? ⟨g, 0, none⟩ = some (.slice (some ⟨q, off, none⟩) (s + k) c) := by rw [hblk.cell]; rfl
      have c1 : w2.cell? ⟨g, 1, none⟩ = some (.int .i64 (s : Int)) := by rw [hblk.cell]; rfl
      have hw3 : IntKind.i64.wrap ((s : Int) + (j : Int)) = (s : Int) + (j : Int) := by rw [IntKind.wrap_i64]; omega
      have hb1 : (0 : Int) ≤ (s : Int) + (j : Int) := by omega
      have hb2 : (s : Int) + (j : Int) < ((s + k : Nat) : Int) := by omega
      have hb3 : ((s : Int) + (j : Int)).toNat = s + j := by omega
      clear hblk hfr hbl hf2 hset hgd hx hu hqg hz hq0 hql
      go_wp2_with fail
      go_region
      all_goals
        go_wp2_with fail
        go_ret
        rw [← HRR.out]
        have hl := (turn_length t (s + j) y).trans HL.out
        exact ⟨rfl, ⟨_, c, by rw [hl]; exact HB2.out.drew, hg, by rw [hl]; exact HF2.out.drew, by rw [hl]; omega⟩, HBL2.out.drew⟩
    · have hR := HR.out
      rw [if_neg ha] at hR
      have HRR := Lib.hid hR
      clear hR HR
      by_cases h0 : 0 ≤ at_
      · have h1 : ¬ at_ < (k : Int) := fun h => ha ⟨h0, h⟩
        go_wp2_with fail
        go_ret
        rw [← HRR.out]
        have hl := HL.out
        exact ⟨rfl, ⟨A, c, by rw [hl]; exact hblk, hg, by rw [hl]; exact hfr, by rw [hl]; omega⟩, hbl⟩
      · go_wp2_with fail
        go_ret
        rw [← HRR.out]
        have hl := HL.out
        exact ⟨rfl, ⟨A, c, by rw [hl]; exact hblk, hg, by rw [hl]; exact hfr, by rw [hl]; omega⟩, hbl⟩
end Go.Proofs.Ytlggkeoihpcdiaa
