/- The walks of frame.Take and frame.Whole. -/
import Derived.Test.YtmhgbpgbnfdokaaF1
namespace Go.Proofs.Ytmhgbpgbnfdokaa
open Go.RowKit

/-- what Take answers -/
def TakeRet (w : World) (t : TK) (e : Ending) (w' : World) : Prop :=
  ∃ A c, e = .returned (.tuple #[.slice A t.p.length c, .int .i64 (t.n : Int), .int .i64 (t.e : Int)]) ∧ Free w' w.heap.size 5 A t.p.length c (cbs t.p) ∧ Below w.heap.size w w'
theorem TakeRet.none_ {w w' : World} {e : Ending} {t : TK} {k : Nat} (ht : t = ⟨[], 0, k⟩) (he : e = .returned (.tuple #[.slice none 0 0, .int .i64 0, .int .i64 (k : Int)])) (hb : Below w.heap.size w w') : TakeRet w t e w' := by
  subst ht
  exact ⟨none, 0, he, Free.nil _ _ _, hb⟩

set_option maxRecDepth 100000 in
set_option maxHeartbeats 800000 in
/-- frame.Take -/
theorem take_any (A : Option Addr) (n c : Nat) (l : List UInt8) (B : Nat) (w : World) (hs : Sees w B A n (cbs l)) (hB : B ≤ w.heap.size) (hc : n ≤ c) (hm : c ≤ maxLen) (hn : n ≤ 140737488355328) :
    Calls Try.prog 118 #[.slice A n c] w (TakeRet w (takeF l)) := by
  have hlen : l.length = n := by have := hs.1; simpa using this
  have HL := Lib.hid (length_any A n c l B w hs hB hc hm)
  have hfle := lenF_le l
  have HT := Lib.hid (show takeF l = if (lenF l).2 ≠ 0 then ⟨[], 0, (lenF l).2⟩ else
    if l.length < (lenF l).1 + 8 then ⟨[], 0, 2⟩ else
    if le4 (crcOf ((l.drop 4).take (lenF l).1)) = (l.drop (4 + (lenF l).1)).take 4 then ⟨(l.drop 4).take (lenF l).1, (lenF l).1 + 8, 0⟩ else ⟨[], 0, 3⟩ from rfl)
  generalize takeF l = T at *
  generalize hLF : lenF l = LF at *
  obtain ⟨N, E⟩ := LF
  simp only at hfle HL HT
  have hm9 : c ≤ 9223372036854775807 := hm
  clear hm
  have HLEN := Lib.hid hlen
  clear hlen
  go_enter Try.func118, Try.ntmps118
  go_wp2_with fail
  refine HL.out.mono ?_
  rintro e w1 ⟨rfl, hb1⟩
  have hs1 := hs.keep (w' := w1) (fun p hp => hb1.cell (by omega))
  have hB1 : B ≤ w1.heap.size := Nat.le_trans hB hb1.size
  clear hs
  by_cases hE : E = 0
  · subst hE
    go_wp2_with fail
    refine (size_any (N : Int) w1 (by omega)).mono ?_
    rintro e w1 ⟨rfl, rfl⟩
    have hmx : max (N : Int) 0 = (N : Int) := by omega
    have hT := HT.out
    rw [if_neg (by simp), HLEN.out] at hT
    by_cases hsz : n < N + 8
    · have hsz' : (n : Int) < (N : Int) + 8 := by omega
      rw [if_pos hsz] at hT
      have HTT := Lib.hid hT
      clear hT HT HL
      go_wp2_with fail
      go_ret3
      exact TakeRet.none_ HTT.out rfl hb1
    · have hsz' : ¬ (n : Int) < (N : Int) + 8 := by omega
      rw [if_neg hsz] at hT
      have hsd := (hs1.drop (k := 4) (by omega) hc).take (k := N) (by omega)
      have hse := (hs1.drop (k := 4 + N) (by omega) hc).take (k := 4) (by omega)
      rw [if_neg (by omega)] at hsd hse
      have HSD := Lib.hid hsd
      have HSE := Lib.hid hse
      clear hsd hse
      have HTT := Lib.hid hT
      clear hT HT HL
      have hn4 : ¬ c = 4 := by omega
      have hnN : ¬ c = 4 + N := by omega
      go_wp2_with fail
      go_quiet (fail)
      have hsd : Sees (w1.drewN nq) B (Option.map (fun x => ({ block := x.block, off := x.off + 4 } : Addr)) A) N (List.take N (List.drop 4 (cbs l))) := HSD.out
      have hse : Sees (w1.drewN nq) B (Option.map (fun x => x.add (4 + N)) A) 4 (List.take 4 (List.drop (4 + N) (cbs l))) := HSE.out
      have hd1 : List.take N (List.drop 4 (cbs l)) = cbs (List.take N (List.drop 4 l)) := by simp [cbs, List.map_take, List.map_drop]
      have hd2 : List.take 4 (List.drop (4 + N) (cbs l)) = cbs (List.take 4 (List.drop (4 + N) l)) := by simp [cbs, List.map_take, List.map_drop]
      rw [hd1] at hsd
      rw [hd2] at hse
      have hb2 := below_drewN hb1 nq
      have hB2 : B ≤ (w1.drewN nq).heap.size := hB1
      have hpl : (List.take N (List.drop 4 l)).length = N := by rw [List.length_take, List.length_drop, HLEN.out]; omega
      have HPL := Lib.hid hpl
      clear hd1 hd2 hs1 hb1 hB1 HSD HSE HLEN hpl
      generalize w1.drewN nq = w2 at *
      generalize List.take N (List.drop 4 l) = p at *
      generalize List.take 4 (List.drop (4 + N) l) = q at *
      rw [show 4 + N - 4 = N from by omega, show N + 8 - (4 + N) = 4 from by omega]
      generalize Option.map (fun x => ({ block := x.block, off := x.off + 4 } : Addr)) A = A1 at *
      generalize Option.map (fun x => x.add (4 + N)) A = A2 at *
      have hN : N ≤ 9223372036854775807 := by omega
      have hcl : N ≤ 140737488355328 := by omega
      have HSZ := Lib.hid hsz
      clear hsz hsz' hmx hn4 hnN
      go_wp2_with fail
      refine (check_any A1 A2 N (c - 4) 4 (c - (4 + N)) p q B B w2 hsd hB2 hse hB2 hN).mono ?_
      rintro e w3 ⟨rfl, hb3⟩
      have hs3 := hsd.keep (w' := w3) (fun p hp => hb3.cell (by omega))
      have hB3 : B ≤ w3.heap.size := Nat.le_trans hB2 hb3.size
      have hb4 := hb2.trans (hb3.mono hb2.size)
      by_cases hq : le4 (crcOf p) = q
      · have hT := HTT.out
        rw [if_pos hq] at hT
        have hqb : (le4 (crcOf p) == q) = true := by rw [beq_iff_eq]; exact hq
        rw [hqb]
        have HTU := Lib.hid hT
        clear hT HTT hqb hq
        go_wp2_with fail
        refine (bclone_any A1 N (c - 4) p B w3 hs3 hB3 hcl).mono ?_
        rintro e w5 ⟨A5, c5, rfl, hf5, hb5⟩
        go_wp2_with fail
        go_ret3
        have hpl := HPL.out
        rw [HTU.out]
        exact ⟨A5, c5, by simp only [hpl]; rfl, by simp only [hpl]; exact hf5.mono hb4.size, bthen hb4 hb5⟩
      · have hT := HTT.out
        rw [if_neg hq] at hT
        have hqb : (le4 (crcOf p) == q) = false := by rw [beq_eq_false_iff_ne]; exact hq
        rw [hqb]
        have HTU := Lib.hid hT
        clear hT HTT hqb hq
        go_wp2_with fail
        go_ret3
        exact TakeRet.none_ HTU.out rfl hb4
  · have hE' : ¬ (E : Int) = 0 := by omega
    have hE2 : ((E : Int) == 0) = false := by rw [beq_eq_false_iff_ne]; exact hE'
    have hT := HT.out
    rw [if_pos hE] at hT
    have HTT := Lib.hid hT
    clear hT HT HL
    go_wp2_with fail
    go_ret3
    exact TakeRet.none_ HTT.out rfl hb1

/-- what Whole answers -/
def WholeRet (w : World) (t : List UInt8 × Nat) (e : Ending) (w' : World) : Prop :=
  ∃ A c, e = .returned (.tuple #[.slice A t.1.length c, .int .i64 (t.2 : Int)]) ∧ Free w' w.heap.size 5 A t.1.length c (cbs t.1) ∧ Below w.heap.size w w'
theorem WholeRet.none_ {w w' : World} {e : Ending} {t : List UInt8 × Nat} {k : Nat} (ht : t = ([], k)) (he : e = .returned (.tuple #[.slice none 0 0, .int .i64 (k : Int)])) (hb : Below w.heap.size w w') : WholeRet w t e w' := by
  subst ht
  exact ⟨none, 0, he, Free.nil _ _ _, hb⟩

end Go.Proofs.Ytmhgbpgbnfdokaa
