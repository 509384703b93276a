/- The walk of the document's own Play (kissinggateref06). -/
import Derived.Test.YtmhgbpgbnfdokaaHdR
namespace Go.Proofs.Ytmhgbpgbnfdokaa
open Go.RowKit

/-- what the document's Play answers -/
def RefAns (w : World) (o : Option StP) (e : Ending) (w' : World) : Prop :=
  Below w.heap.size w w' ∧ match o with
  | none => e = .returned (.tuple #[.agg #[.int .i64 0, .int .i64 0, .slice none 0 0], .bool false])
  | some s => ∃ A n c, e = .returned (.tuple #[.agg #[.int .i64 s.t, .int .i64 s.v, .slice A n c], .bool true]) ∧ s.es.length = n ∧ FreeN 2 w' w.heap.size 73 A n c (ecs s.es)
theorem Prd.blk {w : World} {g : Nat} {s : RS} (h : Prd w g s) : ∃ cs, Blk w g 93 cs := by
  obtain ⟨t, h1, _⟩ := h
  exact ⟨_, h1⟩
theorem state_readP {w w' : World} {base g gR : Nat} {s : StP} {r : RS} (h : StW w base g s) (hp : Prd w gR r) (hg : w.grownBy w' (some gR)) : StW w' base g s := by
  obtain ⟨cs, hb⟩ := hp.blk
  exact h.grown hb (by decide) (by decide) hg
theorem state_apart {w : World} {base g gR : Nat} {s : StP} {r : RS} (h : StW w base g s) (hp : Prd w gR r) : gR ≠ g := by
  obtain ⟨cs, hb⟩ := hp.blk
  obtain ⟨A, c, hk, _⟩ := h
  exact hb.apart hk (by decide)
/-- a state's number turns -/
theorem StW.set_t {w : World} {base g : Nat} {s : StP} (h : StW w base g s) (t : Int) : StW (w.setCell ⟨g, 0, none⟩ (.int .i64 t)) base g ⟨t, s.v, s.es⟩ := by
  obtain ⟨A, c, hk, hg, hf⟩ := h
  exact ⟨A, c, hk.set_ 0 _, hg, hf.far (p := ⟨g, 0, none⟩) (foot_far2 hk hf) _⟩
theorem StW.set_v {w : World} {base g : Nat} {s : StP} (h : StW w base g s) (v : Int) : StW (w.setCell ⟨g, 1, none⟩ (.int .i64 v)) base g ⟨s.t, v, s.es⟩ := by
  obtain ⟨A, c, hk, hg, hf⟩ := h
  exact ⟨A, c, hk.set_ 1 _, hg, hf.far (p := ⟨g, 1, none⟩) (foot_far2 hk hf) _⟩
theorem StW.cells {w : World} {base g : Nat} {s : StP} (h : StW w base g s) : ∃ A c, w.cell? ⟨g, 0, none⟩ = some (.int .i64 s.t) ∧ w.cell? ⟨g, 1, none⟩ = some (.int .i64 s.v) ∧ w.cell? ⟨g, 2, none⟩ = some (.slice A s.es.length c) ∧ w.frozen? ⟨g, 0, none⟩ = false ∧ w.frozen? ⟨g, 1, none⟩ = false ∧ w.frozen? ⟨g, 2, none⟩ = false ∧ FreeN 2 w base 73 A s.es.length c (ecs s.es) ∧ Blk w g 25 #[.int .i64 s.t, .int .i64 s.v, .slice A s.es.length c] ∧ base ≤ g := by
  obtain ⟨A, c, hk, hg, hf⟩ := h
  exact ⟨A, c, by rw [hk.cell]; rfl, by rw [hk.cell]; rfl, by rw [hk.cell]; rfl, hk.frozen 0, hk.frozen 1, hk.frozen 2, hf, hk, hg⟩
theorem Prd.cells {w : World} {g : Nat} {s : RS} (h : Prd w g s) : ∃ t : ByteArray, w.cell? ⟨g, 0, none⟩ = some (.string t) ∧ w.cell? ⟨g, 1, none⟩ = some (.bool s.bad) ∧ t.data.toList = s.l := by
  obtain ⟨t, hk, ht, _⟩ := h
  exact ⟨t, by rw [hk.cell]; rfl, by rw [hk.cell]; rfl, ht⟩
theorem playR_kind1 (t v : Int) (es : List Ent) (l : List UInt8) (t1 v1 : Int) (r1 r2 : RS) (h1 : (⟨l, false⟩ : RS).int 0 1099511627776 = (t1, r1)) (h2 : r1.int (-1) 6 = (v1, r2)) : playR ⟨t, v, es⟩ (1, l) = if r2.bad = false ∧ r2.l = [] then some ⟨t1, v1, es⟩ else none := by
  unfold playR
  simp only [h1, h2, if_true]
theorem playR_kind2 (t v : Int) (es : List Ent) (l : List UInt8) (i1 t1 : Int) (d : List UInt8) (r1 r2 r3 : RS) (h1 : (⟨l, false⟩ : RS).int 1 ((es.length : Int) + 1) = (i1, r1)) (h2 : r1.int 1 1099511627776 = (t1, r2)) (h3 : r2.text 512 = (d, r3)) : playR ⟨t, v, es⟩ (2, l) = if r3.bad = false ∧ r3.l = [] then some ⟨t, v, es.take (i1 - 1).toNat ++ [⟨t1, ⟨d.toArray⟩⟩]⟩ else none := by
  unfold playR
  simp only
  rw [if_neg (show ¬ ((2 : UInt8) = 1) by decide), if_pos trivial]
  simp only [h1, h2, h3]
theorem playR_kind0 (s : StP) (k : UInt8) (l : List UInt8) (h1 : k ≠ 1) (h2 : k ≠ 2) : playR s (k, l) = none := by
  unfold playR
  simp only
  rw [if_neg h1, if_neg h2]
theorem play_none {ms : List RecM} {s : StP} {k : Nat} {r : RecM} (hps : playL play0 (ms.take (k + 1)) = playR s r) (h : playR s r = none) : playF ms = none := by
  unfold playF
  rw [playL_none play0 _ (k + 1) (by rw [hps, h])]
  rfl
theorem text_nil {t : ByteArray} {l : List UInt8} (h : t.data.toList = l) (hl : l = []) : t = ⟨#[]⟩ := by
  apply ByteArray.ext
  apply Array.toList_inj.1
  rw [h, hl]

set_option maxRecDepth 100000 in
set_option maxHeartbeats 3200000 in
/-- kissinggateref06.Play -/
theorem refPlay_any (A : Option Addr) (n c : Nat) (ms : List RecM) (w : World) (hs : Toks w w.heap.size A ms) (hl : ms.length = n) (hn : n ≤ 1073741824) (hr : ∀ r ∈ ms, r.2.length ≤ 1073741824) :
    Calls Try.prog 12 #[.slice A n c] w (RefAns w (playF ms)) := by
  have HO : ∃ o, playF ms = o := ⟨_, rfl⟩
  obtain ⟨o, ho⟩ := HO
  rw [ho]
  have HO := Lib.hid ho
  have hA := Blk.new w 25 #[.int .i64 0, .int .i64 0, .slice none 0 0]
  have hb0 := (Below.refl w.heap.size w).alloc (Nat.le_refl _) (.cells #[.int .i64 0, .int .i64 0, .slice none 0 0] 25)
  have hs0 : Toks (w.alloc (.cells #[.int .i64 0, .int .i64 0, .slice none 0 0] 25)) w.heap.size A ms := hs.below hb0
  have hsz : (w.alloc (.cells #[.int .i64 0, .int .i64 0, .slice none 0 0] 25)).heap.size = w.heap.size + 1 := by simp
  clear ho hs
  go_enter Try.func12, Try.ntmps12
  go_wp2_with fail
  generalize w.alloc (.cells #[.int .i64 0, .int .i64 0, .slice none 0 0] 25) = w0 at *
  have hst : StW (w0.alloc (.cells #[.int .i64 0, .int .i64 (-1), .slice none 0 0] 25)) w0.heap.size w0.heap.size play0 := ⟨none, 0, Blk.new w0 _ _, Nat.le_refl _, FreeN.nil _ _ _ _⟩
  have hb1 := (Below.refl w0.heap.size w0).alloc (Nat.le_refl _) (.cells #[.int .i64 0, .int .i64 (-1), .slice none 0 0] 25)
  generalize w0.alloc (.cells #[.int .i64 0, .int .i64 (-1), .slice none 0 0] 25) = w1 at *
  have HA := Lib.hid hA
  have HB0 := Lib.hid hb0
  have HS0 := Lib.hid hs0
  have HSZ := Lib.hid hsz
  rw [← hsz]
  have HL := Lib.hid hl
  have HR := Lib.hid hr
  clear hA hb0 hs0 hsz hl hr
  go_loopw [13] (fun iv wr => ∃ (k : Nat) (s : StP), k ≤ n ∧ iv = .int .i64 (k : Int) ∧ playL play0 (ms.take k) = some s ∧ s.es.length ≤ k ∧ StW wr w0.heap.size w0.heap.size s ∧ Below w0.heap.size w0 wr) (fun iv _ => n - (intOf iv).toNat)
  case atStart => exact ⟨0, play0, Nat.zero_le _, rfl, rfl, Nat.le_refl _, hst, hb1⟩
  case round =>
    obtain ⟨k, s, hk, rfl, hps, hsk, hsw, hbel⟩ := hrel
    clear hst hb1
    by_cases hlt : k < n
    · have hkr : k < ms.length := by have := HL.out; omega
      have hpt := play_take hkr hps
      have hrn := HR.out ms[k] (List.getElem_mem hkr)
      obtain ⟨b, off, rfl, hbl, d0, d1⟩ := Toks.at_ HS0.out hkr
      have hbl0 : b < w0.heap.size := by have := HSZ.out; omega
      have d0' := (hbel.cell (p := ⟨b, off + k * 2, none⟩) hbl0).trans d0
      have d1' := (hbel.cell (p := ⟨b, off + k * 2 + 1, none⟩) hbl0).trans d1
      have hlt' : (k : Int) < (n : Int) := by omega
      clear d0 d1 hbl hbl0 hps
      generalize ms[k] = m at *
      obtain ⟨kx, lx⟩ := m
      simp only at hrn d0' d1'
      unfold cb at d0'
      obtain ⟨kz, hkz⟩ : ∃ kz : Int, (kx.toNat : Int) = kz := ⟨_, rfl⟩
      rw [hkz] at d0'
      have HKZ := Lib.hid hkz
      clear hkz
      have hbx := ((Below.refl wr.heap.size wr).alloc (Nat.le_refl _) (.cells #[.int .u8 kz, .string (tok lx)] 46))
      have hbx2 := hbx.alloc hbx.size (.cells #[.string (tok lx), .bool false] 93)
      have hx := Blk.new wr 46 #[.int .u8 kz, .string (tok lx)]
      have hx2 := hx.alloc (.cells #[.string (tok lx), .bool false] 93)
      have e0 : (wr.alloc (.cells #[.int .u8 kz, .string (tok lx)] 46)).cell? ⟨wr.heap.size, 0, none⟩ = some (.int .u8 kz) := by rw [hx.cell]; rfl
      have e1 : (wr.alloc (.cells #[.int .u8 kz, .string (tok lx)] 46)).cell? ⟨wr.heap.size, 1, none⟩ = some (.string (tok lx)) := by rw [hx.cell]; rfl
      have hp : Prd ((wr.alloc (.cells #[.int .u8 kz, .string (tok lx)] 46)).alloc (.cells #[.string (tok lx), .bool false] 93)) (wr.heap.size + 1) ⟨lx, false⟩ := by
        have h := Blk.new (wr.alloc (.cells #[.int .u8 kz, .string (tok lx)] 46)) 93 #[.string (tok lx), .bool false]
        rw [show (wr.alloc (.cells #[.int .u8 kz, .string (tok lx)] 46)).heap.size = wr.heap.size + 1 from by simp] at h
        exact ⟨tok lx, h, tok_list lx, (fun h => by cases h), Nat.le_trans hrn (show 1073741824 ≤ 9223372036854775807 by decide)⟩
      have HXC := Lib.hid hx2
      have HP := Lib.hid hp
      have HSW := Lib.hid (hsw.on hbx2)
      have HBX := Lib.hid (hbel.trans (hbx2.mono hbel.size))
      have HPT := Lib.hid hpt
      have HSK := Lib.hid hsk
      have HK := Lib.hid (show k < n from hlt)
      have HGR := Lib.hid (show w0.heap.size ≤ wr.heap.size + 1 by have := hbel.size; omega)
      clear hbx hbx2 hx hx2 hp hsw hbel hpt hsk hlt hk hkr hrn
      obtain ⟨t, v, es⟩ := s
      by_cases k1 : kx = 1
      · as_aux_lemma =>
        subst k1
        have hk1 : kz = 1 := HKZ.out.symm
        clear HKZ
        subst hk1
        generalize h1 : (⟨lx, false⟩ : RS).int 0 1099511627776 = R1
        obtain ⟨t1, r1⟩ := R1
        generalize h2 : r1.int (-1) 6 = R2
        obtain ⟨v1, r2⟩ := R2
        have HPR := Lib.hid (playR_kind1 t v es lx t1 v1 r1 r2 h1 h2)
        have hi := pInt_any (wr.heap.size + 1) ⟨lx, false⟩ 0 1099511627776 _ HP.out
        have HI2 := Lib.hid (fun (g : Nat) W (hW : Prd W g r1) => h2 ▸ pInt_any g r1 (-1) 6 W hW)
        rw [h1] at hi
        have HI := Lib.hid hi
        clear hi h1 h2
        go_wp2_with fail
        generalize (wr.alloc (.cells #[.int .u8 1, .string (tok lx)] 46)).alloc (.cells #[.string (tok lx), .bool false] 93) = w2 at *
        refine HI.out.mono ?_
        rintro e w3 ⟨rfl, hp3, hg3⟩
        have hst3 := state_readP HSW.out HP.out hg3
        have hb3 : Below w0.heap.size w0 w3 := HBX.out.grown hg3 HBX.out.size (fun q e => by injection e with e; have := HGR.out; omega)
        obtain ⟨A3, c3, s0, s1, s2, f0, f1, f2, -, -, -⟩ := hst3.cells
        simp only at s0 s1 s2
        have HNE := Lib.hid (state_apart hst3 hp3)
        have HP4 := Lib.hid (hp3.gb (gb_set (gb_refl w3 _) 0 (.int .i64 t1)) HNE.out)
        have HST4 := Lib.hid (hst3.set_t t1)
        have HB4 := Lib.hid (hb3.setCell (p := ⟨w0.heap.size, 0, none⟩) (Nat.le_refl _) (.int .i64 t1))
        clear hp3 hg3 hst3 hb3 e0 e1 d0' d1'
        go_wp2_with fail
        generalize w3.setCell ⟨w0.heap.size, 0, none⟩ (.int .i64 t1) = w4 at *
        refine (HI2.out _ _ HP4.out).mono ?_
        rintro e w5 ⟨rfl, hp5, hg5⟩
        have hst5 := state_readP HST4.out HP4.out hg5
        have hb5 : Below w0.heap.size w0 w5 := HB4.out.grown hg5 HB4.out.size (fun q e => by injection e with e; have := HGR.out; omega)
        clear s0 s1 s2 f0 f1 f2
        obtain ⟨A5, c5, s0, s1, s2, f0, f1, f2, -, -, -⟩ := hst5.cells
        simp only at s0 s1 s2
        have hp6 := hp5.gb (gb_set (gb_refl w5 _) 1 (.int .i64 v1)) HNE.out
        have HST6 := Lib.hid (hst5.set_v v1)
        have HBz := Lib.hid (hb5.setCell (p := ⟨w0.heap.size, 1, none⟩) (Nat.le_refl _) (.int .i64 v1))
        obtain ⟨tS, p0, p1, htS⟩ := hp6.cells
        clear hp5 hg5 hst5 hb5 hp6
        by_cases hbad : r2.bad = false
        · rw [hbad] at p1
          by_cases hnil : r2.l = []
          · have hts := text_nil htS hnil
            subst hts
            have HPR2 := Lib.hid (HPR.out.trans (if_pos ⟨hbad, hnil⟩))
            clear htS
            go_wp2_with fail
            go_roundw
            case rel => exact ⟨k + 1, ⟨t1, v1, es⟩, HK.out, by go_num, by rw [HPT.out, HPR2.out], by have h8 := HSK.out; (try simp only at h8 ⊢); omega, HST6.out, HBz.out⟩
            case measure => have := HK.out; simp [intOf]; omega
          · have hno : o = none := by rw [← HO.out, play_none HPT.out (HPR.out.trans (if_neg (fun h => hnil h.2)))]
            subst hno
            have htn : tS.data.toList ≠ [] := by rw [htS]; exact hnil
            have hq3 : (tS.data.toList == []) = false := by rw [beq_eq_false_iff_ne]; exact htn
            have hq5 : tS.data ≠ #[] := fun h => htn (by rw [h])
            have hq6 : (tS.data == #[]) = false := by rw [beq_eq_false_iff_ne]; exact hq5
            have hq7 : tS ≠ ⟨#[]⟩ := fun h => hq5 (by rw [h])
            have hq8 : (tS.toList == ByteArray.toList ⟨#[]⟩) = false := by rw [beq_eq_false_iff_ne, ByteArray.toList_eq, ByteArray.toList_eq]; exact htn
            have hq9 : tS.toList.isEmpty = false := by rw [ByteArray.toList_eq]; cases h : tS.data.toList with | nil => exact absurd h htn | cons _ _ => rfl
            clear htS hnil
            go_upto_region 16 with (fail)
            generalize w5.setCell ⟨w0.heap.size, 1, none⟩ (.int .i64 v1) = w6 at *
            have hA3 := HA.out.below HBz.out HA.out.lt
            have d0 : w6.cell? ⟨w.heap.size, 0, none⟩ = some (.int .i64 0) := by rw [hA3.cell]; rfl
            have d1 : w6.cell? ⟨w.heap.size, 1, none⟩ = some (.int .i64 0) := by rw [hA3.cell]; rfl
            have d2 : w6.cell? ⟨w.heap.size, 2, none⟩ = some (.slice none 0 0) := by rw [hA3.cell]; rfl
            have f0 := hA3.frozen 0
            have f1 := hA3.frozen 1
            have f2 := hA3.frozen 2
            have HA4 := Lib.hid (((hA3.set_ 0 (.int .i64 0)).set_ 1 (.int .i64 0)).set_ 2 (.slice none 0 0))
            have HBF := Lib.hid (((((HB0.out.trans (HBz.out.mono HB0.out.size)).setCell (p := ⟨w.heap.size, 0, none⟩) (Nat.le_refl _) (.int .i64 0)).setCell (p := ⟨w.heap.size, 1, none⟩) (Nat.le_refl _) (.int .i64 0)).setCell (p := ⟨w.heap.size, 2, none⟩) (Nat.le_refl _) (.slice none 0 0)))
            clear hA3
            go_wp2_with fail
            (try simp only [Exit.inBlock, Exit.then])
            refine bodyPost_ret (results_row2 rfl _ _ w.heap.size 25 #[.int .i64 0, .int .i64 0, .slice none 0 0] _ rfl HA4.out Try.underlying25 rfl st_size) rfl ?_
            exact ⟨HBF.out, rfl⟩
        · have hno : o = none := by rw [← HO.out, play_none HPT.out (HPR.out.trans (if_neg (fun h => hbad h.1)))]
          subst hno
          rw [Bool.not_eq_false] at hbad
          rw [hbad] at p1
          clear htS
          go_upto_region 16 with (fail)
          generalize w5.setCell ⟨w0.heap.size, 1, none⟩ (.int .i64 v1) = w6 at *
          have hA3 := HA.out.below HBz.out HA.out.lt
          have d0 : w6.cell? ⟨w.heap.size, 0, none⟩ = some (.int .i64 0) := by rw [hA3.cell]; rfl
          have d1 : w6.cell? ⟨w.heap.size, 1, none⟩ = some (.int .i64 0) := by rw [hA3.cell]; rfl
          have d2 : w6.cell? ⟨w.heap.size, 2, none⟩ = some (.slice none 0 0) := by rw [hA3.cell]; rfl
          have f0 := hA3.frozen 0
          have f1 := hA3.frozen 1
          have f2 := hA3.frozen 2
          have HA4 := Lib.hid (((hA3.set_ 0 (.int .i64 0)).set_ 1 (.int .i64 0)).set_ 2 (.slice none 0 0))
          have HBF := Lib.hid (((((HB0.out.trans (HBz.out.mono HB0.out.size)).setCell (p := ⟨w.heap.size, 0, none⟩) (Nat.le_refl _) (.int .i64 0)).setCell (p := ⟨w.heap.size, 1, none⟩) (Nat.le_refl _) (.int .i64 0)).setCell (p := ⟨w.heap.size, 2, none⟩) (Nat.le_refl _) (.slice none 0 0)))
          clear hA3
          go_wp2_with fail
          (try simp only [Exit.inBlock, Exit.then])
          refine bodyPost_ret (results_row2 rfl _ _ w.heap.size 25 #[.int .i64 0, .int .i64 0, .slice none 0 0] _ rfl HA4.out Try.underlying25 rfl st_size) rfl ?_
          exact ⟨HBF.out, rfl⟩
      · by_cases k2 : kx = 2
        · as_aux_lemma =>
          subst k2
          have hk1 : kz = 2 := HKZ.out.symm
          clear HKZ
          subst hk1
          generalize h1 : (⟨lx, false⟩ : RS).int 1 ((es.length : Int) + 1) = R1
          obtain ⟨i1, r1⟩ := R1
          generalize h2 : r1.int 1 1099511627776 = R2
          obtain ⟨t1, r2⟩ := R2
          generalize h3 : r2.text 512 = R3
          obtain ⟨d, r3⟩ := R3
          have HPR := Lib.hid (playR_kind2 t v es lx i1 t1 d r1 r2 r3 h1 h2 h3)
          have hrange : r3.bad = false → 1 ≤ i1 ∧ i1 ≤ (es.length : Int) + 1 := fun hb3 => by
            have k3 := RS.text_good (s := r2) (m := 512) (by rw [h3]; exact hb3)
            have k2 := (RS.int_good (s := r1) (a := 1) (b := 1099511627776) (by rw [h2]; exact k3)).2.2
            have k1 := RS.int_good (s := ⟨lx, false⟩) (a := 1) (b := (es.length : Int) + 1) (by rw [h1]; exact k2)
            rw [h1] at k1
            exact ⟨k1.1, k1.2.1⟩
          have HRG := Lib.hid hrange
          have hi := pInt_any (wr.heap.size + 1) ⟨lx, false⟩ 1 ((es.length : Int) + 1) _ HP.out
          have HI2 := Lib.hid (fun (g : Nat) W (hW : Prd W g r1) => h2 ▸ pInt_any g r1 1 1099511627776 W hW)
          have HI3 := Lib.hid (fun (g : Nat) W (hW : Prd W g r2) => h3 ▸ pText_any g r2 512 W hW)
          rw [h1] at hi
          have HI := Lib.hid hi
          obtain ⟨A2, c2, s0, s1, s2, f0, f1, f2, -, -, -⟩ := HSW.out.cells
          simp only at s0 s1 s2
          have hwl : wrap64 ((es.length : Int) + 1) = (es.length : Int) + 1 := wr_64 (by omega) (by have h8 := HSK.out; have h9 := HK.out; (try simp only at h8); omega)
          have e2 := (by rw [HXC.out.cell]; rfl : ((wr.alloc (.cells #[.int .u8 2, .string (tok lx)] 46)).alloc (.cells #[.string (tok lx), .bool false] 93)).cell? ⟨wr.heap.size, 0, none⟩ = some (.int .u8 2))
          clear hi h1 h2 h3 hrange k1
          go_wp2_with fail
          generalize (wr.alloc (.cells #[.int .u8 2, .string (tok lx)] 46)).alloc (.cells #[.string (tok lx), .bool false] 93) = w2 at *
          refine HI.out.mono ?_
          rintro e w3 ⟨rfl, hp3, hg3⟩
          have HST3 := Lib.hid (state_readP HSW.out HP.out hg3)
          have HB3 : Hid (Below w0.heap.size w0 w3) := Lib.hid (HBX.out.grown hg3 HBX.out.size (fun q e => by injection e with e; have := HGR.out; omega))
          clear hg3 hwl s0 s1 s2 f0 f1 f2 e0 e1 e2 d0' d1'
          go_wp2_with fail
          refine (HI2.out _ _ hp3).mono ?_
          rintro e w4 ⟨rfl, hp4, hg4⟩
          have HST4 := Lib.hid (state_readP HST3.out hp3 hg4)
          have HB4 : Hid (Below w0.heap.size w0 w4) := Lib.hid (HB3.out.grown hg4 HB3.out.size (fun q e => by injection e with e; have := HGR.out; omega))
          clear hg4 hp3
          go_wp2_with fail
          refine (HI3.out _ _ hp4).mono ?_
          rintro e w5 ⟨rfl, hp5, hg5⟩
          have hba := (Below.refl w5.heap.size w5).alloc (Nat.le_refl _) (.cells #[.int .i64 t1, .string ⟨d.toArray⟩] 73)
          have HST5 := Lib.hid ((state_readP HST4.out hp4 hg5).on hba)
          have HBz : Hid (Below w0.heap.size w0 (w5.alloc (.cells #[.int .i64 t1, .string ⟨d.toArray⟩] 73))) := Lib.hid ((HB4.out.grown hg5 HB4.out.size (fun q e => by injection e with e; have := HGR.out; omega)).trans (hba.mono (HB4.out.grown hg5 HB4.out.size (fun q e => by injection e with e; have := HGR.out; omega)).size))
          have hp6 : Prd (w5.alloc (.cells #[.int .i64 t1, .string ⟨d.toArray⟩] 73)) (wr.heap.size + 1) r3 := hp5.keep (hba.block _ hp5.lt)
          have HE5 := Lib.hid (Blk.new w5 73 #[.int .i64 t1, .string ⟨d.toArray⟩])
          have HP6 := Lib.hid hp6
          obtain ⟨tS, p0, p1, htS⟩ := hp6.cells
          clear hg5 hp4 hp5 hba hp6
          by_cases hbad : r3.bad = false
          · rw [hbad] at p1
            obtain ⟨q4, q5⟩ := HRG.out hbad
            obtain ⟨k2, hk2⟩ : ∃ k2 : Nat, i1 = (k2 : Int) + 1 := ⟨(i1 - 1).toNat, by omega⟩
            subst hk2
            have hkl : k2 ≤ es.length := by omega
            have HKT := Lib.hid (show ((k2 : Int) + 1 - 1).toNat = k2 by omega)
            have HKL := Lib.hid hkl
            have hkb : k2 ≤ 1073741824 := by have h8 := HSK.out; have h9 := HK.out; (try simp only at h8); omega
            clear q4 q5
            go_upto_region 13 with (fail)
            generalize w5.heap.size = gE at *
            generalize w5.alloc (.cells #[.int .i64 t1, .string ⟨d.toArray⟩] 73) = W2 at *
            clear p0 p1
            obtain ⟨A3, c3, -, -, s2, -, -, -, hf, hbk, -⟩ := HST5.out.cells
            simp only at s2 hf hbk
            have hsl := fun W => ents_upto A3 es.length c3 k2 (k2 : Int) rfl (Nat.le_trans hkl hf.2.1) W
            have HTK := Lib.hid (show (es.take k2).length = k2 by rw [List.length_take]; omega)
            have HSR := Lib.hid (fun (W : World) (hW : Below W2.heap.size W2 W) => (by
              have h9 := Ents.take (show Ents W W2.heap.size A3 es from Sees.below hf.sees hW) (k := k2) hkl
              unfold Ents at h9
              rw [HTK.out] at h9; exact h9 : Sees W W2.heap.size A3 (k2 * 2) (ecs (es.take k2))))
            have HC2 := Lib.hid (fun (W : World) (hW : Below W2.heap.size W2 W) => (by
              have h9 := hbk.below hW hbk.lt
              have h8 := HE5.out.below hW HE5.out.lt
              exact ⟨by rw [h9.cell]; rfl, h9.frozen 2, by rw [h8.cell]; rfl, by rw [h8.cell]; rfl⟩ : W.cell? ⟨w0.heap.size, 2, none⟩ = some (.slice A3 es.length c3) ∧ W.frozen? ⟨w0.heap.size, 2, none⟩ = false ∧ W.cell? ⟨gE, 0, none⟩ = some (.int .i64 t1) ∧ W.cell? ⟨gE, 1, none⟩ = some (.string ⟨d.toArray⟩)))
            have HBK := Lib.hid hbk
            obtain ⟨s2, f2, e0, e1⟩ := HC2.out _ (Below.refl _ _)
            have hba := fun o => (Below.refl W2.heap.size W2).alloc (Nat.le_refl _) o
            have hba2 := fun o o' => (hba o).alloc (hba o).size o'
            have sA := fun o => (HC2.out _ (hba o)).1
            have fA := fun o => (HC2.out _ (hba o)).2.1
            have eA := fun o => (HC2.out _ (hba o)).2.2.1
            have eB := fun o => (HC2.out _ (hba o)).2.2.2
            have sA2 := fun o o' => (HC2.out _ (hba2 o o')).1
            have fA2 := fun o o' => (HC2.out _ (hba2 o o')).2.1
            have eA2 := fun o o' => (HC2.out _ (hba2 o o')).2.2.1
            have eB2 := fun o o' => (HC2.out _ (hba2 o o')).2.2.2
            have HBAa := Lib.hid hba
            have HBAb := Lib.hid hba2
            have hwk : IntKind.i64.wrap (k2 : Int) = (k2 : Int) := wr_i64 (by omega) (by omega)
            have hwk2 : IntKind.i64.wrap ((k2 : Int) + 1 - 1) = (k2 : Int) := by rw [Int.add_sub_cancel]; exact hwk
            obtain ⟨i0, hi0, hz0, hz1, hz2⟩ := info_parts ent_row
            have hm1 : 0 + k2 ≤ maxLen := Nat.le_trans (show 0 + k2 ≤ 1073741824 by omega) (by decide)
            have hm2 : (0 + k2) * 24 ≤ 140737488355328 := by clear hm1; omega
            have hm3 : k2 + 1 ≤ maxLen := Nat.le_trans (show k2 + 1 ≤ 1073741825 by clear hm1; omega) (by decide)
            have hm4 : (k2 + 1) * 24 ≤ 140737488355328 := by clear hm1 hm3; omega
            have HE0 := Lib.hid (fun (W : World) (B : Nat) (A : Option Addr) => (⟨rfl, Nat.le_refl _, by decide, fun h => absurd h (by omega)⟩ : FreeN 2 W B 73 A 0 0 []))
            have h1c : ∀ u ∈ [Value.int .i64 t1, .string ⟨d.toArray⟩], u.oneCell' = true := by intro u hu; simp at hu; rcases hu with rfl | rfl <;> rfl
            clear hba hba2 hf hbk hkb hkl
            go_cut [] (fun wx => ∃ A5 c5, Blk wx w0.heap.size 25 #[.int .i64 t, .int .i64 v, .slice A5 (k2 + 1) c5] ∧ FreeN 2 wx W2.heap.size 73 A5 (k2 + 1) c5 (ecs (es.take k2 ++ [⟨t1, ⟨d.toArray⟩⟩])) ∧ Below w0.heap.size w0 wx ∧ Prd wx (wr.heap.size + 1) r3)
            case first => as_aux_lemma =>
              go_region_law (first
                | (first
                     | refine step_append_freeN (sz := 2) rfl (.tmp 49) (.tmp 54) 23 rfl W2.heap.size 73 i0 _ 24 sl_ent hi0 hz0 hz1 hz2 rfl (by decide) (some ⟨W2.heap.size, 0, none⟩) 0 0 [] (by rfl) (HE0.out _ _ _) W2.heap.size A3 k2 c3 (ecs (es.take k2)) (by rfl) ?_ (ecs_one _) hm1 hm2 ?_ ?_
                     | refine step_append_freeN (sz := 2) rfl (.tmp 49) (.tmp 54) 23 rfl W2.heap.size 73 i0 _ 24 sl_ent hi0 hz0 hz1 hz2 rfl (by decide) (some ⟨W2.heap.size + 1, 0, none⟩) 0 0 [] (by rfl) (HE0.out _ _ _) W2.heap.size A3 k2 c3 (ecs (es.take k2)) (by rfl) ?_ (ecs_one _) hm1 hm2 ?_ ?_
                   first | exact (HSR.out _ (HBAa.out _)).drew | exact (HSR.out _ (HBAb.out _ _)).drew | exact HSR.out _ (HBAa.out _) | exact HSR.out _ (HBAb.out _ _)
                   first | exact (HBAa.out _).size | exact (HBAb.out _ _).size
                   intro A1 c1 w4 ha1
                   rw [Nat.zero_add]
                   first
                     | (have ha1' : AppendedN 2 (W2.alloc (.cells #[] 73)) W2.heap.size 73 _ 0 0 [] k2 (ecs (es.take k2)) A1 c1 w4 := ha1.same rfl rfl rfl rfl
                        have HB5 := Lib.hid (show Below W2.heap.size W2 w4 from ha1'.below (HE0.out _ _ _) (HBAa.out _) (HBAa.out _).size (Nat.le_refl _))
                        have hf4 := ha1'.1
                        rw [Nat.zero_add, List.nil_append] at hf4
                        have HF4 := Lib.hid hf4
                        have HSN := Lib.hid (show Sees (w4.alloc (.cells #[.int .i64 t1, .string ⟨d.toArray⟩] 73)) (w4.heap.size + 1) (some ⟨w4.heap.size, 0, none⟩) (1 * 2) [.int .i64 t1, .string ⟨d.toArray⟩] from by
                          have h9 := sees_new w4 #[.int .i64 t1, .string ⟨d.toArray⟩] 73
                          rw [show (w4.alloc (.cells #[.int .i64 t1, .string ⟨d.toArray⟩] 73)).heap.size = w4.heap.size + 1 from by simp] at h9
                          exact h9)
                        clear hf4 ha1' ha1)
                     | (have ha1' : AppendedN 2 ((W2.alloc (.cells #[] 73)).alloc (.cells #[.int .i64 t1, .string ⟨d.toArray⟩] 73)) W2.heap.size 73 _ 0 0 [] k2 (ecs (es.take k2)) A1 c1 w4 := ha1.same rfl rfl rfl rfl
                        have HB5 := Lib.hid (show Below W2.heap.size W2 w4 from ha1'.below (HE0.out _ _ _) (HBAb.out _ _) (HBAb.out _ _).size (Nat.le_refl _))
                        have hf4 := ha1'.1
                        rw [Nat.zero_add, List.nil_append] at hf4
                        have HF4 := Lib.hid hf4
                        have HSX := Lib.hid (show Sees w4 w4.heap.size (some ⟨W2.heap.size + 1, 0, none⟩) (1 * 2) [.int .i64 t1, .string ⟨d.toArray⟩] from by
                          have h9 := sees_new (W2.alloc (.cells #[] 73)) #[.int .i64 t1, .string ⟨d.toArray⟩] 73
                          rw [show (W2.alloc (.cells #[] 73)).heap.size = W2.heap.size + 1 from by simp] at h9
                          exact (h9.grown ha1'.2.1 (Nat.le_refl _) (fun g hg => by simp [foot] at hg)).more ha1'.2.1.size)
                        clear hf4 ha1' ha1)
                     | (have ha1' : AppendedN 2 ((W2.alloc (.cells #[.int .i64 t1, .string ⟨d.toArray⟩] 73)).alloc (.cells #[] 73)) W2.heap.size 73 _ 0 0 [] k2 (ecs (es.take k2)) A1 c1 w4 := ha1.same rfl rfl rfl rfl
                        have HB5 := Lib.hid (show Below W2.heap.size W2 w4 from ha1'.below (HE0.out _ _ _) (HBAb.out _ _) (HBAb.out _ _).size (Nat.le_refl _))
                        have hf4 := ha1'.1
                        rw [Nat.zero_add, List.nil_append] at hf4
                        have HF4 := Lib.hid hf4
                        have HSX := Lib.hid (show Sees w4 w4.heap.size (some ⟨W2.heap.size, 0, none⟩) (1 * 2) [.int .i64 t1, .string ⟨d.toArray⟩] from by
                          have h9 := (sees_new W2 #[.int .i64 t1, .string ⟨d.toArray⟩] 73).past (.cells #[] 73)
                          exact (h9.grown ha1'.2.1 (Nat.le_refl _) (fun g hg => by simp [foot] at hg)).more ha1'.2.1.size)
                        clear hf4 ha1' ha1)
                   obtain ⟨s2, f2, e0, e1⟩ := HC2.out _ HB5.out
                   have sB := fun o => (HC2.out _ (HB5.out.alloc HB5.out.size o)).1
                   have fB := fun o => (HC2.out _ (HB5.out.alloc HB5.out.size o)).2.1)
                | (first
                     | refine step_append_freeN (sz := 2) rfl (.tmp 55) (.tmp 57) 23 rfl W2.heap.size 73 i0 _ 24 sl_ent hi0 hz0 hz1 hz2 rfl (by decide) A1 k2 c1 (ecs (es.take k2)) (by rfl) ?_ (w4.heap.size + 1) (some ⟨w4.heap.size, 0, none⟩) 1 1 [.int .i64 t1, .string ⟨d.toArray⟩] (by rfl) ?_ h1c hm3 hm4 ?_ ?_
                     | refine step_append_freeN (sz := 2) rfl (.tmp 55) (.tmp 57) 23 rfl W2.heap.size 73 i0 _ 24 sl_ent hi0 hz0 hz1 hz2 rfl (by decide) A1 k2 c1 (ecs (es.take k2)) (by rfl) ?_ (w4.heap.size + 1) (some ⟨W2.heap.size + 1, 0, none⟩) 1 1 [.int .i64 t1, .string ⟨d.toArray⟩] (by rfl) ?_ h1c hm3 hm4 ?_ ?_
                     | refine step_append_freeN (sz := 2) rfl (.tmp 55) (.tmp 57) 23 rfl W2.heap.size 73 i0 _ 24 sl_ent hi0 hz0 hz1 hz2 rfl (by decide) A1 k2 c1 (ecs (es.take k2)) (by rfl) ?_ (w4.heap.size + 1) (some ⟨W2.heap.size, 0, none⟩) 1 1 [.int .i64 t1, .string ⟨d.toArray⟩] (by rfl) ?_ h1c hm3 hm4 ?_ ?_
                   first | exact HF4.out | exact HF4.out.on ((Below.refl _ _).alloc (Nat.le_refl _) _)
                   first | exact HSX.out.more (Nat.le_succ _) | exact HSN.out
                   first | exact HB5.out.size | exact (HB5.out.alloc HB5.out.size _).size
                   intro A5 c5 w5 ha2
                   have HX2 : Hid (AppendedN 2 w4 W2.heap.size 73 A1 k2 c1 (ecs (es.take k2)) 1 [.int .i64 t1, .string ⟨d.toArray⟩] A5 c5 w5 ∧ Below W2.heap.size W2 w5 ∨ AppendedN 2 (w4.alloc (.cells #[.int .i64 t1, .string ⟨d.toArray⟩] 73)) W2.heap.size 73 A1 k2 c1 (ecs (es.take k2)) 1 [.int .i64 t1, .string ⟨d.toArray⟩] A5 c5 w5) := by
                     first
                       | exact Lib.hid (.inl ⟨ha2.same rfl rfl rfl rfl, (show AppendedN 2 w4 W2.heap.size 73 A1 k2 c1 (ecs (es.take k2)) 1 [.int .i64 t1, .string ⟨d.toArray⟩] A5 c5 w5 from ha2.same rfl rfl rfl rfl).below HF4.out HB5.out HB5.out.size (Nat.le_refl _)⟩)
                       | exact Lib.hid (.inr (ha2.same rfl rfl rfl rfl))
                   have HY : Hid (FreeN 2 w5 W2.heap.size 73 A5 (k2 + 1) c5 (ecs (es.take k2) ++ [.int .i64 t1, .string ⟨d.toArray⟩]) ∧ Below W2.heap.size W2 w5 ∧ Blk w5 w0.heap.size 25 #[.int .i64 t, .int .i64 v, .slice A3 es.length c3]) := Lib.hid (by
                     have hne : ∀ w6, FreeN 2 w6 W2.heap.size 73 A1 k2 c1 (ecs (es.take k2)) → foot A1 c1 ≠ some w0.heap.size := fun w6 hf e => by
                       obtain ⟨h9, _⟩ := hf.foot_at _ e
                       have := HBK.out.lt
                       omega
                     rcases HX2.out with ⟨h1, h2⟩ | h1
                     · exact ⟨h1.1, h2, (HBK.out.below HB5.out HBK.out.lt).grown h1.2.1 (fun e => hne _ HF4.out e.symm)⟩
                     · have hf9 := HF4.out.on ((Below.refl w4.heap.size w4).alloc (Nat.le_refl _) (.cells #[.int .i64 t1, .string ⟨d.toArray⟩] 73))
                       have hb9 := HB5.out.alloc HB5.out.size (.cells #[.int .i64 t1, .string ⟨d.toArray⟩] 73)
                       exact ⟨h1.1, h1.below hf9 hb9 hb9.size (Nat.le_refl _), (HBK.out.below hb9 HBK.out.lt).grown h1.2.1 (fun e => hne _ hf9 e.symm)⟩)
                   have s2 : w5.cell? ⟨w0.heap.size, 2, none⟩ = some (.slice A3 es.length c3) := (by have hz := HY.out.2.2; rw [hz.cell]; rfl)
                   have f2 := HY.out.2.2.frozen 2))
              all_goals
                go_wp2_with fail
                go_meet
                have hff := foot_far2 HY.out.2.2 (HY.out.1)
                refine ⟨A5, c5, HY.out.2.2.set_ 2 _, ?_, (HBz.out.trans (HY.out.2.1.mono HBz.out.size)).setCell (p := ⟨w0.heap.size, 2, none⟩) (Nat.le_refl _) _, ?_⟩
                · rw [ecs_append]
                  exact HY.out.1.far (p := ⟨w0.heap.size, 2, none⟩) hff _
                · exact (HP6.out.keep (HY.out.2.1.block _ HP6.out.lt)).gb (gb_set (gb_refl w5 _) 2 _) (state_apart HST5.out HP6.out)
            case rest => as_aux_lemma =>
              obtain ⟨A5, c5, hbk5, hf5, hb5, hp5⟩ := hcut
              have hln : (es.take k2 ++ [(⟨t1, ⟨d.toArray⟩⟩ : Ent)]).length = k2 + 1 := by rw [List.length_append, HTK.out]; rfl
              have HST6 := Lib.hid (show StW wc w0.heap.size w0.heap.size ⟨t, v, es.take k2 ++ [⟨t1, ⟨d.toArray⟩⟩]⟩ from ⟨A5, c5, by rw [hln]; exact hbk5, Nat.le_refl _, by rw [hln]; exact hf5.mono (HBz.out.size)⟩)
              have HBy := Lib.hid hb5
              have HLN := Lib.hid hln
              obtain ⟨tS, p0, p1, htS⟩ := hp5.cells
              rw [hbad] at p1
              have hpr := HPR.out
              rw [HKT.out] at hpr
              clear hbk5 hf5 hb5 hp5 hln sA fA eA eB sA2 fA2 eA2 eB2 s2 f2 e0 e1 hsl
              by_cases hnil : r3.l = []
              · have hts := text_nil htS hnil
                subst hts
                have HPR2 := Lib.hid (hpr.trans (if_pos ⟨hbad, hnil⟩))
                clear htS hpr
                go_wp2_with fail
                go_roundw
                case rel => exact ⟨k + 1, ⟨t, v, es.take k2 ++ [⟨t1, ⟨d.toArray⟩⟩]⟩, HK.out, by go_num, by rw [HPT.out, HPR2.out], by rw [show (⟨t, v, es.take k2 ++ [⟨t1, ⟨d.toArray⟩⟩]⟩ : StP).es.length = k2 + 1 from HLN.out]; have h7 := HKL.out; have h8 := HSK.out; (try simp only at h8); omega, HST6.out, HBy.out⟩
                case measure => have := HK.out; simp [intOf]; omega
              · have hno : o = none := by rw [← HO.out, play_none HPT.out (hpr.trans (if_neg (fun h => hnil h.2)))]
                subst hno
                have htn : tS.data.toList ≠ [] := by rw [htS]; exact hnil
                have hq3 : (tS.data.toList == []) = false := by rw [beq_eq_false_iff_ne]; exact htn
                have hq5 : tS.data ≠ #[] := fun h => htn (by rw [h])
                have hq6 : (tS.data == #[]) = false := by rw [beq_eq_false_iff_ne]; exact hq5
                have hq7 : tS ≠ ⟨#[]⟩ := fun h => hq5 (by rw [h])
                have hq8 : (tS.toList == ByteArray.toList ⟨#[]⟩) = false := by rw [beq_eq_false_iff_ne, ByteArray.toList_eq, ByteArray.toList_eq]; exact htn
                have hq9 : tS.toList.isEmpty = false := by rw [ByteArray.toList_eq]; cases h : tS.data.toList with | nil => exact absurd h htn | cons _ _ => rfl
                clear htS hnil hpr
                have hA3 := HA.out.below HBy.out HA.out.lt
                have d0 : wc.cell? ⟨w.heap.size, 0, none⟩ = some (.int .i64 0) := by rw [hA3.cell]; rfl
                have d1 : wc.cell? ⟨w.heap.size, 1, none⟩ = some (.int .i64 0) := by rw [hA3.cell]; rfl
                have d2 : wc.cell? ⟨w.heap.size, 2, none⟩ = some (.slice none 0 0) := by rw [hA3.cell]; rfl
                have f0 := hA3.frozen 0
                have f1 := hA3.frozen 1
                have f2 := hA3.frozen 2
                have HA4 := Lib.hid (((hA3.set_ 0 (.int .i64 0)).set_ 1 (.int .i64 0)).set_ 2 (.slice none 0 0))
                have HBF := Lib.hid (((((HB0.out.trans (HBy.out.mono HB0.out.size)).setCell (p := ⟨w.heap.size, 0, none⟩) (Nat.le_refl _) (.int .i64 0)).setCell (p := ⟨w.heap.size, 1, none⟩) (Nat.le_refl _) (.int .i64 0)).setCell (p := ⟨w.heap.size, 2, none⟩) (Nat.le_refl _) (.slice none 0 0)))
                clear hA3
                go_wp2_with fail
                (try simp only [Exit.inBlock, Exit.then])
                refine bodyPost_ret (results_row2 rfl _ _ w.heap.size 25 #[.int .i64 0, .int .i64 0, .slice none 0 0] _ rfl HA4.out Try.underlying25 rfl st_size) rfl ?_
                exact ⟨HBF.out, rfl⟩
          · as_aux_lemma =>
            have hno : o = none := by rw [← HO.out, play_none HPT.out (HPR.out.trans (if_neg (fun h => hbad h.1)))]
            subst hno
            rw [Bool.not_eq_false] at hbad
            rw [hbad] at p1
            clear htS
            go_upto_region 16 with (fail)
            generalize w5.alloc (.cells #[.int .i64 t1, .string ⟨d.toArray⟩] 73) = w6 at *
            have hA3 := HA.out.below HBz.out HA.out.lt
            have d0 : w6.cell? ⟨w.heap.size, 0, none⟩ = some (.int .i64 0) := by rw [hA3.cell]; rfl
            have d1 : w6.cell? ⟨w.heap.size, 1, none⟩ = some (.int .i64 0) := by rw [hA3.cell]; rfl
            have d2 : w6.cell? ⟨w.heap.size, 2, none⟩ = some (.slice none 0 0) := by rw [hA3.cell]; rfl
            have f0 := hA3.frozen 0
            have f1 := hA3.frozen 1
            have f2 := hA3.frozen 2
            have HA4 := Lib.hid (((hA3.set_ 0 (.int .i64 0)).set_ 1 (.int .i64 0)).set_ 2 (.slice none 0 0))
            have HBF := Lib.hid (((((HB0.out.trans (HBz.out.mono HB0.out.size)).setCell (p := ⟨w.heap.size, 0, none⟩) (Nat.le_refl _) (.int .i64 0)).setCell (p := ⟨w.heap.size, 1, none⟩) (Nat.le_refl _) (.int .i64 0)).setCell (p := ⟨w.heap.size, 2, none⟩) (Nat.le_refl _) (.slice none 0 0)))
            clear hA3
            go_wp2_with fail
            (try simp only [Exit.inBlock, Exit.then])
            refine bodyPost_ret (results_row2 rfl _ _ w.heap.size 25 #[.int .i64 0, .int .i64 0, .slice none 0 0] _ rfl HA4.out Try.underlying25 rfl st_size) rfl ?_
            exact ⟨HBF.out, rfl⟩
        · as_aux_lemma =>
          have hno : o = none := by rw [← HO.out, play_none HPT.out (playR_kind0 _ _ _ k1 k2)]
          subst hno
          have hkz := HKZ.out
          have q1 : ¬ kz = 1 := fun h => k1 (UInt8.toNat_inj.1 (show kx.toNat = 1 by omega))
          have q2 : ¬ kz = 2 := fun h => k2 (UInt8.toNat_inj.1 (show kx.toNat = 2 by omega))
          have q3 : (kz == 1) = false := by rw [beq_eq_false_iff_ne]; exact q1
          have q4 : (kz == 2) = false := by rw [beq_eq_false_iff_ne]; exact q2
          clear hkz
          have e2 := (by rw [HXC.out.cell]; rfl : ((wr.alloc (.cells #[.int .u8 kz, .string (tok lx)] 46)).alloc (.cells #[.string (tok lx), .bool false] 93)).cell? ⟨wr.heap.size, 0, none⟩ = some (.int .u8 kz))
          have HBz := HBX
          have hA3 := HA.out.below HBz.out HA.out.lt
          clear k1 k2
          go_upto_region 14 with (fail)
          generalize (wr.alloc (.cells #[.int .u8 kz, .string (tok lx)] 46)).alloc (.cells #[.string (tok lx), .bool false] 93) = w6 at *
          clear hA3
          have hA3 := HA.out.below HBz.out HA.out.lt
          have d0 : w6.cell? ⟨w.heap.size, 0, none⟩ = some (.int .i64 0) := by rw [hA3.cell]; rfl
          have d1 : w6.cell? ⟨w.heap.size, 1, none⟩ = some (.int .i64 0) := by rw [hA3.cell]; rfl
          have d2 : w6.cell? ⟨w.heap.size, 2, none⟩ = some (.slice none 0 0) := by rw [hA3.cell]; rfl
          have f0 := hA3.frozen 0
          have f1 := hA3.frozen 1
          have f2 := hA3.frozen 2
          have HA4 := Lib.hid (((hA3.set_ 0 (.int .i64 0)).set_ 1 (.int .i64 0)).set_ 2 (.slice none 0 0))
          have HBF := Lib.hid (((((HB0.out.trans (HBz.out.mono HB0.out.size)).setCell (p := ⟨w.heap.size, 0, none⟩) (Nat.le_refl _) (.int .i64 0)).setCell (p := ⟨w.heap.size, 1, none⟩) (Nat.le_refl _) (.int .i64 0)).setCell (p := ⟨w.heap.size, 2, none⟩) (Nat.le_refl _) (.slice none 0 0)))
          clear hA3
          go_wp2_with fail
          (try simp only [Exit.inBlock, Exit.then])
          refine bodyPost_ret (results_row2 rfl _ _ w.heap.size 25 #[.int .i64 0, .int .i64 0, .slice none 0 0] _ rfl HA4.out Try.underlying25 rfl st_size) rfl ?_
          exact ⟨HBF.out, rfl⟩
    · as_aux_lemma =>
      have hlt' : ¬ (k : Int) < (n : Int) := by omega
      have hkn : k = n := by omega
      have hps2 : playL play0 ms = some s := by
        rw [← hps, List.take_of_length_le (by have := HL.out; omega)]
      have hoo : o = if rightS s then some s else none := by
        rw [← HO.out]
        unfold playF
        rw [hps2]
        rfl
      have HOO := Lib.hid hoo
      obtain ⟨A3, c3, hbk, _, hf⟩ := hsw
      have c0 : wr.cell? ⟨w0.heap.size, 0, none⟩ = some (.int .i64 s.t) := by rw [hbk.cell]; rfl
      have c1 : wr.cell? ⟨w0.heap.size, 1, none⟩ = some (.int .i64 s.v) := by rw [hbk.cell]; rfl
      have c2 : wr.cell? ⟨w0.heap.size, 2, none⟩ = some (.slice A3 s.es.length c3) := by rw [hbk.cell]; rfl
      have HRI := Lib.hid (refRight6_any s A3 s.es.length c3 wr hf.sees rfl (by omega))
      have HBK := Lib.hid hbk
      have HF := Lib.hid hf
      have HBEL := Lib.hid hbel
      clear hbk hf hbel hps hps2 hoo hk hlt hsk hkn
      go_wp2_with fail
      refine HRI.out.mono ?_
      rintro e w4 ⟨rfl, hb4⟩
      have HB4 := Lib.hid (HBEL.out.trans (hb4.mono HBEL.out.size))
      have hbk4 := HBK.out.below hb4 HBK.out.lt
      have HF4 := Lib.hid (HF.out.on hb4)
      have hA4 := HA.out.below HB4.out HA.out.lt
      have c0 : w4.cell? ⟨w0.heap.size, 0, none⟩ = some (.int .i64 s.t) := by rw [hbk4.cell]; rfl
      have c1 : w4.cell? ⟨w0.heap.size, 1, none⟩ = some (.int .i64 s.v) := by rw [hbk4.cell]; rfl
      have c2 : w4.cell? ⟨w0.heap.size, 2, none⟩ = some (.slice A3 s.es.length c3) := by rw [hbk4.cell]; rfl
      have HA4 := Lib.hid hA4
      have HBz := HB4
      have HBB := Lib.hid (HB0.out.trans (HB4.out.mono HB0.out.size))
      clear hb4 hbk4 hA4
      cases hri : rightS s with
      | false =>
        have hno : o = none := by rw [HOO.out, hri]; rfl
        subst hno
        clear hri HOO HO HA4
        have hA3 := HA.out.below HBz.out HA.out.lt
        have d0 : w4.cell? ⟨w.heap.size, 0, none⟩ = some (.int .i64 0) := by rw [hA3.cell]; rfl
        have d1 : w4.cell? ⟨w.heap.size, 1, none⟩ = some (.int .i64 0) := by rw [hA3.cell]; rfl
        have d2 : w4.cell? ⟨w.heap.size, 2, none⟩ = some (.slice none 0 0) := by rw [hA3.cell]; rfl
        have f0 := hA3.frozen 0
        have f1 := hA3.frozen 1
        have f2 := hA3.frozen 2
        have HA4 := Lib.hid (((hA3.set_ 0 (.int .i64 0)).set_ 1 (.int .i64 0)).set_ 2 (.slice none 0 0))
        have HBF := Lib.hid (((((HB0.out.trans (HBz.out.mono HB0.out.size)).setCell (p := ⟨w.heap.size, 0, none⟩) (Nat.le_refl _) (.int .i64 0)).setCell (p := ⟨w.heap.size, 1, none⟩) (Nat.le_refl _) (.int .i64 0)).setCell (p := ⟨w.heap.size, 2, none⟩) (Nat.le_refl _) (.slice none 0 0)))
        clear hA3
        go_wp2_with fail
        (try simp only [Exit.inBlock, Exit.then])
        refine bodyPost_ret (results_row2 rfl _ _ w.heap.size 25 #[.int .i64 0, .int .i64 0, .slice none 0 0] _ rfl HA4.out Try.underlying25 rfl st_size) rfl ?_
        exact ⟨HBF.out, rfl⟩
      | true =>
        have hno : o = some s := by rw [HOO.out, hri]; rfl
        subst hno
        have d0 : w4.cell? ⟨w.heap.size, 0, none⟩ = some (.int .i64 0) := by rw [HA4.out.cell]; rfl
        have d1 : w4.cell? ⟨w.heap.size, 1, none⟩ = some (.int .i64 0) := by rw [HA4.out.cell]; rfl
        have d2 : w4.cell? ⟨w.heap.size, 2, none⟩ = some (.slice none 0 0) := by rw [HA4.out.cell]; rfl
        have f0 := HA4.out.frozen 0
        have f1 := HA4.out.frozen 1
        have f2 := HA4.out.frozen 2
        have HA5 := Lib.hid (((HA4.out.set_ 0 (.int .i64 s.t)).set_ 1 (.int .i64 s.v)).set_ 2 (.slice A3 s.es.length c3))
        have HBF := Lib.hid ((((HBB.out.setCell (p := ⟨w.heap.size, 0, none⟩) (Nat.le_refl _) (.int .i64 s.t)).setCell (p := ⟨w.heap.size, 1, none⟩) (Nat.le_refl _) (.int .i64 s.v)).setCell (p := ⟨w.heap.size, 2, none⟩) (Nat.le_refl _) (.slice A3 s.es.length c3)))
        have hne : ∀ q, foot A3 c3 = some q → q ≠ w.heap.size := fun q hq e => by
          obtain ⟨h9, _⟩ := HF4.out.foot_at q hq
          have := HSZ.out
          omega
        have HF5 := Lib.hid ((((HF4.out.far (p := ⟨w.heap.size, 0, none⟩) hne (.int .i64 s.t)).far (p := ⟨w.heap.size, 1, none⟩) hne (.int .i64 s.v)).far (p := ⟨w.heap.size, 2, none⟩) hne (.slice A3 s.es.length c3)).mono (base' := w.heap.size) HB0.out.size)
        clear hri HOO HO hne
        go_wp2_with fail
        (try simp only [Exit.inBlock, Exit.then])
        refine bodyPost_ret (results_row2 rfl _ _ w.heap.size 25 #[.int .i64 s.t, .int .i64 s.v, .slice A3 s.es.length c3] _ rfl HA5.out Try.underlying25 rfl st_size) rfl ?_
        exact ⟨HBF.out, A3, s.es.length, c3, rfl, rfl, HF5.out⟩
end Go.Proofs.Ytmhgbpgbnfdokaa
