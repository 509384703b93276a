/- The walks of package hard's play and Play. -/
import Derived.Test.YtmhgbpgbnfdokaaHd2
import Derived.Test.YtmhgbpgbnfdokaaRec2
import Derived.Laws.ResultCell
import Derived.Laws.Rows
namespace Go.Proofs.Ytmhgbpgbnfdokaa
open Go.RowKit

theorem results_row2 {P : Program} {fn : Func} {p u : Tmp} {ty : TypeId} (h : fn.results = #[.cell p ty, .tmp u]) (tmps : Array Value) (w : World) (g : Nat) (t : TypeId) (cs : Array Value) (d : TypeDesc)
    (hp : tmps.getD p undef = .pointer (some ⟨g, 0, none⟩)) (hg : Blk w g t cs)
    (hu : P.underlying ty = some d) (hd : (match d with | .struct _ | .array _ _ => true | _ => false) = true) (hi : (P.info? ty).map (·.size) = some cs.size) :
    (results fn tmps).run P w = .ok (.tuple #[.agg cs, tmps.getD u undef]) w := by
  rw [results_cell_tmp h, hp]
  simp [asAddr, Result.andThen, run_loadVar_row w g t ty cs (0, 0) d hg hu hd hi]

theorem st_size : (Try.prog.info? 25).map (·.size) = some 3 := by kernel_rfl

set_option maxRecDepth 100000 in
set_option maxHeartbeats 800000 in
/-- hard.play -/
theorem play_any (base g : Nat) (s : StP) (k : UInt8) (A : Option Addr) (n c : Nat) (l : List UInt8) (o : Option StP) (ho : playR s (k, l) = o) (w : World) (h : StW w base g s) (hs : Sees w w.heap.size A n (cbs l)) (hn : n ≤ 1073741824) (hB : base ≤ w.heap.size) (hes : s.es.length ≤ 1099511627776) :
    Calls Try.prog 41 #[.pointer (some ⟨g, 0, none⟩), .agg #[.int .u8 (k.toNat : Int), .slice A n c]] w (PlayRet w base g o.isSome (o.getD play0)) := by
  obtain ⟨t, v, es⟩ := s
  have hA := Blk.new w 29 #[.int .u8 (k.toNat : Int), .slice A n c]
  have hb0 := (Below.refl w.heap.size w).alloc (Nat.le_refl _) (.cells #[.int .u8 (k.toNat : Int), .slice A n c] 29)
  have c0 : (w.alloc (.cells #[.int .u8 (k.toNat : Int), .slice A n c] 29)).cell? ⟨w.heap.size, 0, none⟩ = some (.int .u8 (k.toNat : Int)) := by rw [hA.cell]; rfl
  have c1 : (w.alloc (.cells #[.int .u8 (k.toNat : Int), .slice A n c] 29)).cell? ⟨w.heap.size, 1, none⟩ = some (.slice A n c) := by rw [hA.cell]; rfl
  have H := Lib.hid (h.on hb0)
  have HS := Lib.hid (Sees.on hs hb0)
  have HB := Lib.hid (Nat.le_trans hB hb0.size)
  have HBW := Lib.hid (hb0.mono hB)
  clear hA hb0 h hs hB
  by_cases k1 : k = 1
  · have q1 : ((k.toNat : Int) == 1) = true := by rw [k1]; rfl
    unfold playR at ho
    rw [if_pos k1] at ho
    simp only at ho
    generalize h1 : (⟨l, false⟩ : RS).int 0 1099511627776 = R1 at ho
    obtain ⟨t1, r1⟩ := R1
    simp only at ho
    generalize h2 : r1.int (-1) 6 = R2 at ho
    obtain ⟨v1, r2⟩ := R2
    simp only at ho
    have HP := Lib.hid (fun (gR : Nat) (W : World) (hW : StW W base g ⟨t, v, es⟩) (hr : Rdr W gR ⟨l, false⟩) (hg : base ≤ gR) (hz : base ≤ W.heap.size) => playHard_any base g gR t v es ⟨l, false⟩ r1 r2 t1 v1 h1 h2 W hW hr hg hz)
    have hdone : o = if r2.done = true then some ⟨t1, v1, es⟩ else none := by
      rw [← ho]
      unfold RS.done
      cases r2.bad <;> cases r2.l <;> simp
    have HO := Lib.hid hdone
    clear ho h1 h2 hdone k1
    go_enter Try.func41, Try.ntmps41
    go_wp2_with fail
    generalize w.alloc (.cells #[.int .u8 (k.toNat : Int), .slice A n c] 29) = w0 at *
    refine (read_any A n c l w0 HS.out (by omega)).mono ?_
    rintro e w1 ⟨gR, rfl, hr, hb1, hgR⟩
    have HS1 := Lib.hid (H.out.on hb1)
    have HR1 := Lib.hid hr
    have HB1 := Lib.hid (HBW.out.trans (hb1.mono HB.out))
    have HBZ := Lib.hid (Nat.le_trans HB.out hb1.size)
    have HGR := Lib.hid (Nat.le_trans HB.out hgR)
    clear hr hb1 hgR c0 c1
    go_wp2_with fail
    refine (HP.out gR w1 HS1.out HR1.out HGR.out HBZ.out).mono ?_
    rintro e w2 ⟨rfl, hst, hb2⟩
    have HST := Lib.hid hst
    have HB2 := Lib.hid (HB1.out.trans hb2)
    clear hst hb2
    go_wp2_with fail
    go_ret
    have hoo := HO.out
    cases hd : r2.done with
    | true =>
      rw [hd, if_pos rfl] at hoo
      subst hoo
      exact ⟨rfl, fun _ => HST.out, HB2.out⟩
    | false =>
      rw [hd, if_neg (by simp)] at hoo
      subst hoo
      exact ⟨rfl, fun h => Bool.noConfusion h, HB2.out⟩
  · by_cases k2 : k = 2
    · have q1 : ((k.toNat : Int) == 1) = false := by rw [k2]; rfl
      have q2 : ((k.toNat : Int) == 2) = true := by rw [k2]; rfl
      unfold playR at ho
      rw [if_neg k1, if_pos k2] at ho
      simp only at ho
      generalize h1 : (⟨l, false⟩ : RS).int 1 ((es.length : Int) + 1) = R1 at ho
      obtain ⟨i1, r1⟩ := R1
      simp only at ho
      generalize h2 : r1.int 1 1099511627776 = R2 at ho
      obtain ⟨t1, r2⟩ := R2
      simp only at ho
      generalize h3 : r2.text 512 = R3 at ho
      obtain ⟨d, r3⟩ := R3
      simp only at ho
      have HP := Lib.hid (fun (gR : Nat) (W : World) (hW : StW W base g ⟨t, v, es⟩) (hr : Rdr W gR ⟨l, false⟩) (hg : base ≤ gR) (hz : base ≤ W.heap.size) => playEntry_any base g gR t v es ⟨l, false⟩ r1 r2 r3 i1 t1 d r3.done rfl h1 h2 h3 W hW hr hg hz hes)
      have hdone : o = if r3.done = true then some ⟨t, v, es.take (i1 - 1).toNat ++ [⟨t1, ⟨d.toArray⟩⟩]⟩ else none := by
        rw [← ho]
        unfold RS.done
        cases r3.bad <;> cases r3.l <;> simp
      have HO := Lib.hid hdone
      clear ho h1 h2 h3 hdone k1 k2
      go_enter Try.func41, Try.ntmps41
      go_wp2_with fail
      generalize w.alloc (.cells #[.int .u8 (k.toNat : Int), .slice A n c] 29) = w0 at *
      refine (read_any A n c l w0 HS.out (by omega)).mono ?_
      rintro e w1 ⟨gR, rfl, hr, hb1, hgR⟩
      have HS1 := Lib.hid (H.out.on hb1)
      have HR1 := Lib.hid hr
      have HB1 := Lib.hid (HBW.out.trans (hb1.mono HB.out))
      have HBZ := Lib.hid (Nat.le_trans HB.out hb1.size)
      have HGR := Lib.hid (Nat.le_trans HB.out hgR)
      clear hr hb1 hgR c0 c1
      go_wp2_with fail
      refine (HP.out gR w1 HS1.out HR1.out HGR.out HBZ.out).mono ?_
      rintro e w2 ⟨rfl, hst, hb2⟩
      have HST := Lib.hid hst
      have HB2 := Lib.hid (HB1.out.trans hb2)
      clear hst hb2
      go_wp2_with fail
      go_ret
      have hoo := HO.out
      have hst := HST.out
      cases hd : r3.done with
      | true =>
        rw [hd, if_pos rfl] at hoo
        subst hoo
        exact ⟨rfl, fun _ => hst hd, HB2.out⟩
      | false =>
        rw [hd, if_neg (by simp)] at hoo
        subst hoo
        exact ⟨rfl, fun h => Bool.noConfusion h, HB2.out⟩
    · have q1 : ((k.toNat : Int) == 1) = false := by
        rw [beq_eq_false_iff_ne]
        intro h
        exact k1 (UInt8.toNat_inj.1 (by have : (1 : UInt8).toNat = 1 := rfl; omega))
      have q2 : ((k.toNat : Int) == 2) = false := by
        rw [beq_eq_false_iff_ne]
        intro h
        exact k2 (UInt8.toNat_inj.1 (by have : (2 : UInt8).toNat = 2 := rfl; omega))
      have hoo : o = none := by
        rw [← ho]
        unfold playR
        rw [if_neg k1, if_neg k2]
      subst hoo
      clear ho k1 k2
      go_enter Try.func41, Try.ntmps41
      go_wp2_with fail
      go_ret
      exact ⟨rfl, fun h => Bool.noConfusion h, HBW.out⟩
end Go.Proofs.Ytmhgbpgbnfdokaa
