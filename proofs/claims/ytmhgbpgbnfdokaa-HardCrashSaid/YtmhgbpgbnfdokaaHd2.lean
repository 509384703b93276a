/- The walks of package hard's playHard, playEntry and play: what a record does to a state. -/
import Derived.Test.YtmhgbpgbnfdokaaHd1
import Derived.Test.YtmhgbpgbnfdokaaLog2
import Derived.Test.YtmhgbpgbnfdokaaW5
namespace Go.Proofs.Ytmhgbpgbnfdokaa
open Go.RowKit

/-- a reader is left alone where a block of another type turns -/
theorem Rdr.far {w w' : World} {g g' : Nat} {s : RS} {T : TypeId} {cs : Array Value} (h : Rdr w g s) (hp : Blk w g' T cs) (hT : T ≠ 5) (hg : w.grownBy w' (some g')) (hne : g' ≠ g) : Rdr w' g s := by
  obtain ⟨A, c, h1, h2, h3, h4, h5, h6⟩ := h
  have hgl := h1.lt
  have hbk : ∀ b off, A = some ⟨b, off, none⟩ → 0 < s.l.length → b < g → w'.heap[b]? = w.heap[b]? := by
    intro b off hA hn hb
    obtain ⟨cs', fr, hcs⟩ := h6 hn _ hA
    refine hg.block b (by omega) (fun e => ?_)
    injection e with e
    subst e
    unfold Blk at hp
    simp only at hcs
    rw [hp] at hcs
    injection hcs with hcs
    injection hcs with _ ht
    exact hT ht
  refine ⟨A, c, (hg.block g hgl (fun e => by injection e with e; omega)).trans h1, ⟨h2.1, fun hn => ?_⟩, h3, h4, h5, fun hn a ha => ?_⟩
  · obtain ⟨b, off, hA, hb, hc⟩ := h2.2 hn
    exact ⟨b, off, hA, hb, fun j u hu => (World.cell?_of_block (hbk b off hA hn hb)).trans (hc j u hu)⟩
  · obtain ⟨b, off, hA, hb, _⟩ := h2.2 hn
    obtain ⟨cs', fr, hcs⟩ := h6 hn a ha
    rw [hA] at ha
    injection ha with ha
    subst ha
    exact ⟨cs', fr, (hbk b off hA hn hb).trans hcs⟩
theorem Rdr.blk {w : World} {g : Nat} {s : RS} (h : Rdr w g s) : ∃ cs, Blk w g 141 cs := by
  obtain ⟨A, c, h1, _⟩ := h
  exact ⟨_, h1⟩

/-- the state that lies in block g -/
def StW (w : World) (base g : Nat) (s : StP) : Prop :=
  ∃ A c, Blk w g 25 #[.int .i64 s.t, .int .i64 s.v, .slice A s.es.length c] ∧ base ≤ g ∧ FreeN 2 w base 73 A s.es.length c (ecs s.es)
section
variable {w w' : World} {base g : Nat} {s : StP}
theorem StW.on (h : StW w base g s) (hb : Below w.heap.size w w') : StW w' base g s := by
  obtain ⟨A, c, h1, h2, h3⟩ := h
  exact ⟨A, c, h1.below hb h1.lt, h2, h3.on hb⟩
theorem StW.lt (h : StW w base g s) : g < w.heap.size := by obtain ⟨A, c, h1, _⟩ := h; exact h1.lt
/-- another block turns, of another type -/
theorem StW.grown {q : Nat} {T : TypeId} {cs : Array Value} (h : StW w base g s) (hq : Blk w q T cs) (h1 : T ≠ 25) (h2 : T ≠ 73) (hg : w.grownBy w' (some q)) : StW w' base g s := by
  obtain ⟨A, c, k1, k2, k3⟩ := h
  refine ⟨A, c, k1.grown hg (fun e => ?_), k2, k3.grown hg (fun k hk e => ?_)⟩
  · injection e with e
    exact hq.apart k1 h1 e.symm
  · injection e with e
    obtain ⟨_, cur, hB⟩ := k3.foot_at k hk
    exact hq.apart hB h2 e.symm
end
/-- entries' row lies in another block than the state -/
theorem foot_far2 {w : World} {base g n c : Nat} {A : Option Addr} {xs : List Value} {cs : Array Value} (hb : Blk w g 25 cs) (h : FreeN 2 w base 73 A n c xs) : ∀ k, foot A c = some k → k ≠ g := by
  intro k hk
  obtain ⟨_, cur, hB⟩ := h.foot_at k hk
  exact hB.apart hb (by decide)

set_option maxRecDepth 100000 in
set_option maxHeartbeats 800000 in
/-- hard.playHard -/
theorem playHard_any (base g gR : Nat) (t v : Int) (es : List Ent) (r r1 r2 : RS) (t1 v1 : Int) (h1 : r.int 0 1099511627776 = (t1, r1)) (h2 : r1.int (-1) 6 = (v1, r2)) (w : World) (h : StW w base g ⟨t, v, es⟩) (hr : Rdr w gR r) (hgR : base ≤ gR) (hB : base ≤ w.heap.size) :
    Calls Try.prog 65 #[.pointer (some ⟨g, 0, none⟩), .pointer (some ⟨gR, 0, none⟩)] w fun e w' =>
      e = .returned (.bool r2.done) ∧ StW w' base g ⟨t1, v1, es⟩ ∧ Below base w w' := by
  have hi := rInt_any gR r 0 1099511627776 w hr
  rw [h1] at hi
  have hi2 := fun W hW => rInt_any gR r1 (-1) 6 W hW
  rw [h2] at hi2
  simp only at hi hi2
  have HI := Lib.hid hi
  have HI2 := Lib.hid hi2
  clear hi hi2 h1 h2
  obtain ⟨cR, hbR⟩ := hr.blk
  have H := Lib.hid h
  have HBR := Lib.hid hbR
  have HGR := Lib.hid hgR
  have HB := Lib.hid hB
  clear h hr hbR hgR hB
  go_enter Try.func65, Try.ntmps65
  go_wp2_with fail
  refine HI.out.mono ?_
  rintro e w1 ⟨rfl, hr1, hg1⟩
  have hst1 := H.out.grown HBR.out (by decide) (by decide) hg1
  have hb1 : Below base w w1 := (Below.refl base w).grown hg1 HB.out (fun k e => by injection e with e; have := HGR.out; omega)
  obtain ⟨A, c, hbk, hg, hf⟩ := hst1
  have c0 : w1.cell? ⟨g, 0, none⟩ = some (.int .i64 t) := by rw [hbk.cell]; rfl
  have f0 := hbk.frozen 0
  have hbk2 := hbk.set_ 0 (.int .i64 t1)
  have hf2 := hf.far (p := ⟨g, 0, none⟩) (foot_far2 hbk hf) (.int .i64 t1)
  have hgn : gR ≠ g := by
    obtain ⟨cs, hB⟩ := hr1.blk
    exact hB.apart hbk (by decide)
  have hr2 : Rdr (w1.setCell ⟨g, 0, none⟩ (.int .i64 t1)) gR r1 := hr1.far hbk (by decide) (gb_set (gb_refl w1 _) 0 _) (Ne.symm hgn)
  have hb2 := hb1.setCell (p := ⟨g, 0, none⟩) hg (.int .i64 t1)
  have HBK := Lib.hid hbk2
  have HF := Lib.hid hf2
  have HR1 := Lib.hid hr2
  have HB1 := Lib.hid hb2
  have HG := Lib.hid hg
  have HGN := Lib.hid hgn
  clear hbk hf hr1 hb1 hg1 hg hbk2 hf2 hr2 hb2 hgn
  go_wp2_with fail
  refine (HI2.out _ HR1.out).mono ?_
  rintro e w2 ⟨rfl, hr3, hg3⟩
  obtain ⟨cs3, hB3⟩ := HR1.out.blk
  have hbk3 := HBK.out.grown hg3 (fun e => by injection e with e; exact HGN.out e.symm)
  have hf3 := HF.out.grown hg3 (fun k hk e => by
    injection e with e
    obtain ⟨_, cur, hB⟩ := HF.out.foot_at k hk
    exact hB3.apart hB (by decide) e.symm)
  have hb3 := HB1.out.grown hg3 (by have := HB.out; have := HB1.out.size; omega) (fun k e => by injection e with e; have := HGR.out; omega)
  have c1 : w2.cell? ⟨g, 1, none⟩ = some (.int .i64 v) := by rw [hbk3.cell]; rfl
  have f1 := hbk3.frozen 1
  have hr4 : Rdr (w2.setCell ⟨g, 1, none⟩ (.int .i64 v1)) gR r2 := hr3.far hbk3 (by decide) (gb_set (gb_refl w2 _) 1 _) (Ne.symm HGN.out)
  have hbk4 := hbk3.set_ 1 (.int .i64 v1)
  have hf4 := hf3.far (p := ⟨g, 1, none⟩) (foot_far2 hbk3 hf3) (.int .i64 v1)
  have hb4 := hb3.setCell (p := ⟨g, 1, none⟩) HG.out (.int .i64 v1)
  have HR4 := Lib.hid hr4
  have HBK4 := Lib.hid hbk4
  have HF4 := Lib.hid hf4
  have HB4 := Lib.hid hb4
  clear hr3 hg3 hB3 hbk3 hf3 hb3 hr4 hbk4 hf4 hb4 c0 f0
  go_wp2_with fail
  refine (rDone_any gR r2 _ HR4.out).mono ?_
  rintro e w3 ⟨rfl, rfl⟩
  go_wp2_with fail
  go_ret
  exact ⟨rfl, ⟨A, c, HBK4.out, HG.out, HF4.out⟩, HB4.out⟩

theorem RS.int_good {s : RS} {a b : Int} (h : (s.int a b).2.bad = false) : a ≤ (s.int a b).1 ∧ (s.int a b).1 ≤ b ∧ s.bad = false := by
  unfold RS.int at *
  split at h
  · cases h
  · rename_i p hp
    split at h
    · cases h
    · rename_i hn
      rw [if_neg hn]
      refine ⟨by simp only; omega, by simp only; omega, ?_⟩
      unfold RS.take at hp
      split at hp
      · rename_i hh
        exact hh.1
      · cases hp
theorem RS.text_good {s : RS} {m : Int} (h : (s.text m).2.bad = false) : s.bad = false := by
  unfold RS.text at h
  split at h
  · cases h
  · rename_i p hp
    unfold RS.take at hp
    split at hp
    · rename_i hh
      exact hh.1
    · cases hp
/-- 's[:k]' of a row that may be written -/
theorem FreeN.upto {sz : Nat} {w : World} {base n c k : Nat} {e : TypeId} {A : Option Addr} {xs : List Value} (h : FreeN sz w base e A n c xs) (hk : k ≤ n) : FreeN sz w base e A k c (xs.take (k * sz)) := by
  have hkm : k * sz ≤ n * sz := Nat.mul_le_mul_right sz hk
  refine ⟨by rw [List.length_take, h.1]; omega, by have := h.2.1; omega, h.2.2.1, fun hc => ?_⟩
  obtain ⟨g, off, cur, hA, hb, hB, hs, hx⟩ := h.2.2.2 hc
  exact ⟨g, off, cur, hA, hb, hB, hs, fun j hj => by rw [hx j (by omega), List.getElem?_take, if_pos hj]⟩

/-- a state and a reader, behind a call of the reader -/
theorem state_read {w w' : World} {base g gR : Nat} {s : StP} {cs : Array Value} (h : StW w base g s) (hb : Blk w gR 141 cs) (hg : w.grownBy w' (some gR)) : StW w' base g s := h.grown hb (by decide) (by decide) hg

/-- what a record's playing answers -/
def PlayRet (w : World) (base g : Nat) (ok : Bool) (s : StP) (e : Ending) (w' : World) : Prop := e = .returned (.bool ok) ∧ (ok = true → StW w' base g s) ∧ Below base w w'

set_option maxRecDepth 100000 in
set_option maxHeartbeats 800000 in
/-- hard.playEntry -/
theorem playEntry_any (base g gR : Nat) (t v : Int) (es : List Ent) (r r1 r2 r3 : RS) (i1 t1 : Int) (d : List UInt8) (ok : Bool) (hok : r3.done = ok) (h1 : r.int 1 ((es.length : Int) + 1) = (i1, r1)) (h2 : r1.int 1 1099511627776 = (t1, r2)) (h3 : r2.text 512 = (d, r3)) (w : World) (h : StW w base g ⟨t, v, es⟩) (hr : Rdr w gR r) (hgR : base ≤ gR) (hB : base ≤ w.heap.size) (hn : es.length ≤ 1099511627776) :
    Calls Try.prog 67 #[.pointer (some ⟨g, 0, none⟩), .pointer (some ⟨gR, 0, none⟩)] w
      (PlayRet w base g ok ⟨t, v, es.take (i1 - 1).toNat ++ [⟨t1, ⟨d.toArray⟩⟩]⟩) := by
  have hrange : r3.bad = false → 1 ≤ i1 ∧ i1 ≤ (es.length : Int) + 1 := fun hb3 => by
    have k3 := RS.text_good (s := r2) (m := 512) (by rw [h3]; exact hb3)
    have k2 := (RS.int_good (s := r1) (a := 1) (b := 1099511627776) (by rw [h2]; exact k3)).2.2
    have k1 := RS.int_good (s := r) (a := 1) (b := (es.length : Int) + 1) (by rw [h1]; exact k2)
    rw [h1] at k1
    exact ⟨k1.1, k1.2.1⟩
  have hi := rInt_any gR r 1 ((es.length : Int) + 1) w hr
  rw [h1] at hi
  have hi2 := fun W hW => rInt_any gR r1 1 1099511627776 W hW
  rw [h2] at hi2
  have hi3 := fun W hW => rText_any gR r2 512 W hW
  rw [h3] at hi3
  simp only at hi hi2 hi3
  have HI := Lib.hid hi
  have HI2 := Lib.hid hi2
  have HI3 := Lib.hid hi3
  have HRG := Lib.hid hrange
  have HOK := Lib.hid hok
  clear hok
  have HR0 := Lib.hid hr
  clear hi hi2 hi3 h1 h2 h3 hrange hr
  obtain ⟨A, c, hbk, hg, hf⟩ := h
  have c2 : w.cell? ⟨g, 2, none⟩ = some (.slice A es.length c) := by rw [hbk.cell]; rfl
  have HS := Lib.hid (show StW w base g ⟨t, v, es⟩ from ⟨A, c, hbk, hg, hf⟩)
  have HGR := Lib.hid hgR
  have HB := Lib.hid hB
  have hw1 : wrap64 ((es.length : Int) + 1) = (es.length : Int) + 1 := wr_64 (by omega) (by omega)
  clear hbk hg hf hgR hB
  have HN := Lib.hid hn
  clear hn
  go_enter Try.func67, Try.ntmps67
  go_wp2_with fail
  clear hw1
  refine HI.out.mono ?_
  rintro e w1 ⟨rfl, hr1, hg1⟩
  obtain ⟨cs0, hB0⟩ := HR0.out.blk
  have HS1 := Lib.hid (state_read HS.out hB0 hg1)
  have HB1 := Lib.hid ((Below.refl base w).grown hg1 HB.out (fun k e => by injection e with e; have := HGR.out; omega))
  clear hB0 hg1 c2
  go_wp2_with fail
  obtain ⟨cs1, hB1⟩ := hr1.blk
  refine (HI2.out _ hr1).mono ?_
  rintro e w2 ⟨rfl, hr2, hg2⟩
  have HS2 := Lib.hid (state_read HS1.out hB1 hg2)
  have HB2 := Lib.hid (HB1.out.grown hg2 (by have := HB.out; have := HB1.out.size; omega) (fun k e => by injection e with e; have := HGR.out; omega))
  clear hB1 hg2 hr1
  go_wp2_with fail
  obtain ⟨cs2, hB2⟩ := hr2.blk
  refine (HI3.out _ hr2).mono ?_
  rintro e w3 ⟨rfl, hr3, hg3⟩
  have HS3 := Lib.hid (state_read HS2.out hB2 hg3)
  have HB3 := Lib.hid (HB2.out.grown hg3 (by have := HB.out; have := HB2.out.size; omega) (fun k e => by injection e with e; have := HGR.out; omega))
  clear hB2 hg3 hr2
  go_wp2_with fail
  refine (rDone_any gR r3 _ hr3).mono ?_
  rintro e w4 ⟨rfl, rfl⟩
  rw [HOK.out]
  cases ok with
  | false =>
    go_wp2_with fail
    go_ret
    exact ⟨rfl, fun h => Bool.noConfusion h, HB3.out⟩
  | true =>
    have hbad : r3.bad = false := by
      have hdn := HOK.out
      unfold RS.done at hdn
      rw [Bool.and_eq_true] at hdn
      simpa using hdn.1
    obtain ⟨q1, q2⟩ := HRG.out hbad
    obtain ⟨k, hk⟩ : ∃ k : Nat, i1 = (k : Int) + 1 := ⟨(i1 - 1).toNat, by omega⟩
    subst hk
    have hkl : k ≤ es.length := by omega
    have HKT := Lib.hid (show ((k : Int) + 1 - 1).toNat = k by omega)
    obtain ⟨A3, c3, hbk, hg, hf⟩ := HS3.out
    have c2 : w4.cell? ⟨g, 2, none⟩ = some (.slice A3 es.length c3) := by rw [hbk.cell]; rfl
    have f2 := hbk.frozen 2
    have hsl := fun W => ents_upto A3 es.length c3 k (k : Int) rfl (Nat.le_trans hkl hf.2.1) W
    have hfu := hf.upto hkl
    rw [ecs_take] at hfu
    obtain ⟨i0, hi0, hz0, hz1, hz2⟩ := info_parts ent_row
    have hkb : k ≤ 1099511627776 := by have := HN.out; omega
    have hm1 : k + 1 ≤ maxLen := Nat.le_trans (show k + 1 ≤ 1099511627777 by omega) (by decide)
    have hm2 : (k + 1) * 24 ≤ 140737488355328 := by clear hm1; omega
    have hwk : wrap64 (k : Int) = (k : Int) := wr_64 (by clear hm1; omega) (by clear hm1; omega)
    have HFU := Lib.hid hfu
    have HBK := Lib.hid hbk
    have HG := Lib.hid hg
    have HTK := Lib.hid (show (es.take k).length = k by rw [List.length_take]; omega)
    have HFF := Lib.hid (foot_far2 hbk hf)
    have HBZ := Lib.hid (show base ≤ w4.heap.size by have := HB.out; have := HB3.out.size; omega)
    clear hfu hbk hg hf q1 q2 hkl hbad hr3 HI2 HI3
    have hba := (Below.refl w4.heap.size w4).alloc (Nat.le_refl _) (.cells #[.int .i64 t1, .string ⟨d.toArray⟩] 73)
    have hx : Sees (w4.alloc (.cells #[.int .i64 t1, .string ⟨d.toArray⟩] 73)) (w4.alloc (.cells #[.int .i64 t1, .string ⟨d.toArray⟩] 73)).heap.size (some ⟨w4.heap.size, 0, none⟩) (1 * 2) (ecs [⟨t1, ⟨d.toArray⟩⟩]) := sees_new w4 #[.int .i64 t1, .string ⟨d.toArray⟩] 73
    have HFA := Lib.hid (HFU.out.on hba)
    have HBA := Lib.hid (HBK.out.below hba HBK.out.lt)
    have HBW := Lib.hid (HB3.out.alloc HBZ.out (.cells #[.int .i64 t1, .string ⟨d.toArray⟩] 73))
    have HBZ2 := Lib.hid (Nat.le_trans HBZ.out hba.size)
    clear hba
    go_wp2_with (at_builtin; go_loud (
      refine wpList_append_freeN (sz := 2) _ rfl (.tmp 30) (.tmp 34) _ rfl base 73 i0 _ 24 sl_ent hi0 hz0 hz1 hz2 rfl (by decide) A3 k c3 (ecs (es.take k)) rfl HFA.out _ _ 1 1 (ecs [⟨t1, ⟨d.toArray⟩⟩]) rfl hx (ecs_one _) hm1 hm2 HBZ2.out ?_
      intro A5 c5 w5 ha5
      have hbk5 := HBA.out.grown ha5.2.1 (fun e => HFF.out g e.symm rfl)
      have d2 : w5.cell? ⟨g, 2, none⟩ = some (.slice A3 es.length c3) := (by rw [hbk5.cell]; rfl)
      have g2 := hbk5.frozen 2
      have hff5 := foot_far2 hbk5 ha5.1
      have HBK6 := Lib.hid (hbk5.set_ 2 (.slice A5 (k + 1) c5))
      have HF6 := Lib.hid (ha5.1.far (p := ⟨g, 2, none⟩) hff5 (.slice A5 (k + 1) c5))
      have HB6 := Lib.hid ((ha5.below HFA.out HBW.out HBZ2.out (Nat.le_refl _)).setCell (p := ⟨g, 2, none⟩) HG.out (.slice A5 (k + 1) c5))
      clear ha5 hbk5 hff5 hx))
    go_ret
    have hkt := HKT.out
    rw [hkt]
    have hl : (es.take k ++ [(⟨t1, ⟨d.toArray⟩⟩ : Ent)]).length = k + 1 := by rw [List.length_append, HTK.out]; rfl
    refine ⟨rfl, fun _ => ⟨A5, c5, by rw [hl]; exact HBK6.out, HG.out, ?_⟩, HB6.out⟩
    have h9 := HF6.out
    rw [← ecs_append] at h9
    rw [hl]
    exact h9
end Go.Proofs.Ytmhgbpgbnfdokaa
