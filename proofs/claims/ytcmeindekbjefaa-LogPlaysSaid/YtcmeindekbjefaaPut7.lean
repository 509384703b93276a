/- The walk of layer 7's plain row: what a putting comes to. -/
import Derived.Test.YtcmeindekbjefaaLog3
import Derived.BigQuiet
import Derived.Deep.RegionLaw
namespace Go.Proofs.Ytcmeindekbjefaa
open Go.RowKit

/-- what the plain row's putting answers -/
def PutRet (w : World) (base : Nat) (A : Option Addr) (c : Nat) (r : List Ent × Int × Nat) (e : Ending) (w' : World) : Prop :=
  ∃ A' n' c', e = .returned (.tuple #[.slice A' n' c', .int .i64 r.2.1, .int .i64 (r.2.2 : Int)]) ∧ r.1.length = n' ∧ FreeN 2 w' base 62 A' n' c' (ecs r.1) ∧ (foot A' c' = foot A c ∨ ∃ k, foot A' c' = some k ∧ w.heap.size ≤ k) ∧ Below w.heap.size w w'
theorem PutRet.same {w w' : World} {base n c k : Nat} {A : Option Addr} {es : List Ent} {r : List Ent × Int × Nat} {e : Ending} (hr : r = (es, 0, k)) (he : e = .returned (.tuple #[.slice A n c, .int .i64 0, .int .i64 (k : Int)])) (hn : es.length = n) (hf : FreeN 2 w base 62 A n c (ecs es)) (hb : Below w.heap.size w w') : PutRet w base A c r e w' := by
  subst hr
  exact ⟨A, n, c, he, hn, hf.on hb, .inl rfl, hb⟩

theorem putF_fits {es : List Ent} {i t : Int} {l : List Ent} {k : Nat} (h : fitsF es i t l = k) (hk : k ≠ 0) : putF es i t l = (es, 0, k) := by
  unfold putF
  rw [h, if_pos hk]
theorem putF_there {es : List Ent} {i t : Int} {l : List Ent} {k : Nat} (h : fitsF es i t l = 0) (hk : thereF es i l = k) : putF es i t l = if k = l.length then (es, 0, 0) else if 1024 < i + l.length then (es, 0, 7) else (es.take (i + k).toNat ++ l.drop k, i + k + 1, 0) := by
  unfold putF
  rw [h, if_neg (by omega), hk]

set_option maxRecDepth 100000 in
set_option maxHeartbeats 1600000 in
/-- kissinggatelaw07.put -/
theorem lawPut_any (kd i t : Int) (AL : Option Addr) (nl cl : Nat) (l : List Ent) (A : Option Addr) (n c : Nat) (es : List Ent) (base : Nat) (w : World) (hrow : FreeN 2 w base 62 A n c (ecs es)) (hes : es.length = n) (hn : n ≤ 1048576) (hs : Ents w w.heap.size AL l) (hl : l.length = nl) (hlc : nl ≤ cl) (hln : nl ≤ 1048576) (hB : base ≤ w.heap.size) :
    Calls Try.prog 28 #[.slice A n c, .agg #[.int .u8 kd, .int .i64 i, .int .i64 t, .slice AL nl cl]] w (PutRet w base A c (putF es i t l)) := by
  have hnc := hrow.2.1
  have hse : Ents w w.heap.size A es := by unfold Ents; rw [hes]; exact hrow.sees
  have hA0 := Blk.new w 60 #[.int .u8 kd, .int .i64 i, .int .i64 t, .slice AL nl cl]
  have hb0 := (Below.refl w.heap.size w).alloc (Nat.le_refl _) (.cells #[.int .u8 kd, .int .i64 i, .int .i64 t, .slice AL nl cl] 60)
  have HG := Lib.hid (fun (W : World) (hW : Below (w.alloc (.cells #[.int .u8 kd, .int .i64 i, .int .i64 t, .slice AL nl cl] 60)).heap.size (w.alloc (.cells #[.int .u8 kd, .int .i64 i, .int .i64 t, .slice AL nl cl] 60)) W) =>
    have hk := hA0.below hW hA0.lt
    (⟨by rw [hk.cell]; rfl, by rw [hk.cell]; rfl, by rw [hk.cell]; rfl⟩ : W.cell? ⟨w.heap.size, 1, none⟩ = some (.int .i64 i) ∧ W.cell? ⟨w.heap.size, 2, none⟩ = some (.int .i64 t) ∧ W.cell? ⟨w.heap.size, 3, none⟩ = some (.slice AL nl cl)))
  obtain ⟨g1, g2, g3⟩ := HG.out _ (Below.refl _ _)
  have HB0 := Lib.hid hb0
  have HROW := Lib.hid hrow
  have HSE := Lib.hid hse
  have HS := Lib.hid hs
  have HES := Lib.hid hes
  have HL := Lib.hid hl
  clear hA0 hb0 hrow hse hs
  by_cases h1 : i < 0 ∨ (n : Int) < i
  · have hp := putF_fits (es := es) (i := i) (t := t) (l := l) (k := 6) (by unfold fitsF; rw [termF_out (by rw [hes]; exact h1)]; simp) (by omega)
    have HP := Lib.hid hp
    clear hp hes hl
    rcases h1 with h1 | h1
    · go_enter Try.func28, Try.ntmps28
      go_wp2_with fail
      go_ret3
      exact PutRet.same HP.out rfl HES.out HROW.out HB0.out
    · have h1' : ¬ i < 0 := by omega
      go_enter Try.func28, Try.ntmps28
      go_wp2_with fail
      go_ret3
      exact PutRet.same HP.out rfl HES.out HROW.out HB0.out
  · obtain ⟨m, rfl⟩ : ∃ m : Nat, i = m := ⟨i.toNat, by omega⟩
    have hmn : m ≤ n := by omega
    have hT : ∃ q, termF es m = (q, true) := by
      rcases Nat.eq_zero_or_pos m with h0 | h0
      · subst h0
        exact ⟨0, termF_zero es⟩
      · have h := termF_at (es := es) (j := m - 1) (by omega)
        rw [show ((m - 1 : Nat) : Int) + 1 = (m : Int) from by omega] at h
        exact ⟨_, h⟩
    obtain ⟨q, hq⟩ := hT
    have h2 : ¬ (m : Int) < 0 := by omega
    have h3 : ¬ (n : Int) < (m : Int) := by omega
    have HQ := Lib.hid hq
    have HMN := Lib.hid hmn
    have HWX : ∃ W, W = w.alloc (.cells #[.int .u8 kd, .int .i64 (m : Int), .int .i64 t, .slice AL nl cl] 60) := ⟨_, rfl⟩
    clear hl hes hq hmn
    go_enter Try.func28, Try.ntmps28
    go_upto_if 26 with (fail)
    generalize w.alloc (.cells #[.int .u8 kd, .int .i64 (m : Int), .int .i64 t, .slice AL nl cl] 60) = w0 at *
    clear HWX
    go_cut [7] (fun v wx => v = .int .i64 q ∧ wx = w0)
    case first =>
      rcases Nat.eq_zero_or_pos m with h0 | h0
      · subst h0
        have hq := HQ.out
        rw [show ((0 : Nat) : Int) = 0 from rfl, termF_zero] at hq
        have hq0 : q = 0 := by injection hq with hq; exact hq.symm
        subst hq0
        clear hq
        go_wp2_with fail
        go_meet
        exact ⟨rfl, rfl⟩
      · obtain ⟨j, rfl⟩ : ∃ j, m = j + 1 := ⟨m - 1, by omega⟩
        have hjn : j < es.length := by have := HES.out; have := HMN.out; omega
        have hq := HQ.out
        rw [show ((j + 1 : Nat) : Int) = (j : Int) + 1 from by omega, termF_at hjn] at hq
        have hq0 : es[j].t = q := by injection hq
        obtain ⟨b, off, rfl, hbl, d0, _⟩ := Ents.at_ (Sees.on HSE.out HB0.out) hjn
        rw [hq0] at d0
        have hjn' : (j : Int) < (n : Int) := by have := HES.out; omega
        have hj1 : (((j + 1 : Nat) : Int)) = (j : Int) + 1 := by omega
        have hj0 : (0 : Int) < (j : Int) + 1 := by omega
        have hwj : wrap64 (j : Int) = (j : Int) := wr_64 (by omega) (by omega)
        clear hq hq0 h0 h1 h2 h3 hn hlc hln hnc hB
        go_wp2_with fail
        go_meet
        exact ⟨rfl, rfl⟩
    case rest =>
      obtain ⟨rfl, rfl⟩ := hcut
      have HSC := Lib.hid (Sees.on HS.out HB0.out : Ents wc wc.heap.size AL l)
      have HSEC := Lib.hid (Sees.on HSE.out HB0.out : Ents wc wc.heap.size A es)
      clear HS HSE
      by_cases hqt : q = t
      · subst hqt
        go_wp2_with fail
        go_loopw [7, 42] (fun v iv wr => ∃ k : Nat, k ≤ nl ∧ v = .int .i64 (upT q l k) ∧ iv = .int .i64 (k : Int) ∧ (∀ (j : Nat) (hj : j < l.length), j < k → upT q l j ≤ l[j].t) ∧ Below wc.heap.size wc wr) (fun _ iv _ => nl - (intOf iv).toNat)
        case atStart => exact ⟨0, Nat.zero_le _, by rw [upT_zero], rfl, (fun j _ h => absurd h (by omega)), Below.refl _ _⟩
        case round =>
          obtain ⟨k, hk, rfl, rfl, hup, hbel⟩ := hrel
          clear g1 g2 g3
          by_cases hlt : k < nl
          · have hkl : k < l.length := by have := HL.out; omega
            obtain ⟨b, off, rfl, hbl, d0, d1⟩ := Ents.at_ HSC.out hkl
            have d0' := (hbel.cell (p := ⟨b, off + k * 2, none⟩) hbl).trans d0
            have d1' := (hbel.cell (p := ⟨b, off + k * 2 + 1, none⟩) hbl).trans d1
            have hlt' : (k : Int) < (nl : Int) := by omega
            have hnx := upT_succ q l k hkl
            have HUP := Lib.hid hup
            by_cases hf : l[k].t < upT q l k
            · have HP := Lib.hid (putF_fits (es := es) (i := m) (t := q) (l := l) (k := 5) (by unfold fitsF; rw [HQ.out, if_neg (by simp), if_neg (by simp), if_pos (fallF_at q l k hkl hf)]) (by omega))
              clear d0 d1 hup hnx
              generalize l[k] = x at *
              generalize upT q l k = u at *
              go_wp2_with fail
              go_ret3
              exact PutRet.same HP.out rfl HES.out HROW.out (bthen HB0.out (hbel.alloc hbel.size _))
            · have HNF := Lib.hid (show upT q l k ≤ l[k].t by omega)
              clear d0 d1 hup
              generalize hx : l[k] = x at *
              generalize hu : upT q l k = u at *
              have HX := Lib.hid hx
              have HU := Lib.hid hu
              clear hx hu
              go_wp2_with fail
              go_roundw
              case rel =>
                refine ⟨k + 1, by omega, by rw [hnx], by go_num, fun j hj hjk => ?_, hbel.alloc hbel.size _⟩
                by_cases e : j = k
                · subst e
                  have h1 := HX.out
                  have h2 := HU.out
                  rw [h1, h2]
                  exact HNF.out
                · exact HUP.out j hj (by omega)
              case measure => simp [intOf]; omega
          · have hlt' : ¬ (k : Int) < (nl : Int) := by omega
            have HF0 := Lib.hid (show fitsF es m q l = 0 by
              unfold fitsF
              rw [HQ.out, if_neg (by simp), if_neg (by simp), if_neg (by rw [fallF_none q l (fun j hj => hup j hj (by have := HL.out; omega))]; simp)])
            obtain ⟨g1, g2, g3⟩ := HG.out _ hbel
            clear hup
            generalize upT q l k = u at *
            go_wp2_with fail
            go_loopw [57] (fun iv wr => ∃ k : Nat, k ≤ nl ∧ iv = .int .i64 (k : Int) ∧ (∀ (j : Nat) (hj : j < l.length), j < k → termF es ((m : Int) + 1 + j) = (l[j].t, true)) ∧ Below wc.heap.size wc wr) (fun iv _ => nl - (intOf iv).toNat)
            case atStart => exact ⟨0, Nat.zero_le _, rfl, (fun j _ h => absurd h (by omega)), hbel⟩
            case round =>
              obtain ⟨k2, hk2, rfl, hup2, hbel2⟩ := hrel
              clear g1 g2 g3 hbel hlt hlt'
              obtain ⟨g1, g2, g3⟩ := HG.out _ hbel2
              by_cases hlt : k2 < nl
              · have hkl : k2 < l.length := by have := HL.out; omega
                obtain ⟨b, off, rfl, hbl, d0, d1⟩ := Ents.at_ HSC.out hkl
                have d0' := (hbel2.cell (p := ⟨b, off + k2 * 2, none⟩) hbl).trans d0
                have d1' := (hbel2.cell (p := ⟨b, off + k2 * 2 + 1, none⟩) hbl).trans d1
                have hlt' : (k2 : Int) < (nl : Int) := by omega
                have HUP2 := Lib.hid hup2
                have hmis := fun (h : termF es ((m : Int) + 1 + k2) ≠ (l[k2].t, true)) => And.intro (thereF_eq es m l k2 (by omega) HUP2.out (fun _ => h)) (putF_there (t := q) HF0.out (thereF_eq es m l k2 (by omega) HUP2.out (fun _ => h)))
                rw [HL.out] at hmis
                have hmore : termF es ((m : Int) + 1 + (k2 : Int)) = (l[k2].t, true) → ∀ (j : Nat) (hj : j < l.length), j < k2 + 1 → termF es ((m : Int) + 1 + j) = (l[j].t, true) := fun h j hj hjk => by
                  by_cases e : j = k2
                  · subst e
                    exact h
                  · exact HUP2.out j hj (by omega)
                clear d0 d1 hup2 HUP2
                generalize l[k2] = x at *
                have HMIS := Lib.hid hmis
                have HMORE := Lib.hid hmore
                have hA2 := Blk.new wr 62 #[.int .i64 x.t, .string x.s]
                have e0 : (wr.alloc (.cells #[.int .i64 x.t, .string x.s] 62)).cell? ⟨wr.heap.size, 0, none⟩ = some (.int .i64 x.t) := by rw [hA2.cell]; rfl
                have hb3 := hbel2.alloc hbel2.size (.cells #[.int .i64 x.t, .string x.s] 62)
                obtain ⟨k1, k2', k3⟩ := HG.out _ hb3
                have hsum : (m : Int) + (k2 : Int) ≤ 4611686018427387904 := by omega
                have hwk := wr_64 (z := (m : Int) + (k2 : Int)) (by omega) hsum
                have HNUM := Lib.hid (show n ≤ 1048576 ∧ nl ≤ cl ∧ nl ≤ 1048576 ∧ n ≤ c ∧ base ≤ w.heap.size ∧ k2 < nl ∧ m ≤ n from ⟨hn, hlc, hln, hnc, hB, hlt, HMN.out⟩)
                clear hmis hmore hA2 hsum h1 h2 h3 hn hlc hln hnc hB hk2 hkl hlt
                go_upto_region 19 with (fail)
                rw [hwk]
                clear hwk
                generalize wr.alloc (.cells #[.int .i64 x.t, .string x.s] 62) = W1 at *
                generalize wr.heap.size = G2 at *
                clear d0' d1' hbel2 hbl
                have HB3 := Lib.hid hb3
                go_cut [79] (fun v wx => ∃ (bq : Bool) (N : Nat), v = .bool bq ∧ (bq = true ↔ termF es ((m : Int) + 1 + (k2 : Int)) = (x.t, true)) ∧ wx = W1.drewN N)
                case first =>
                  by_cases hin : m + k2 < n
                  · have hin2 : m + k2 < es.length := by have := HES.out; omega
                    obtain ⟨b2, off2, hA2, hbl2, d2, _⟩ := Ents.at_ HSEC.out hin2
                    have d2' := (hb3.cell (p := ⟨b2, off2 + (m + k2) * 2, none⟩) hbl2).trans d2
                    have HTF := Lib.hid (termF_at hin2)
                    have hd : decide ((m : Int) + (k2 : Int) < (n : Int)) = true := by rw [decide_eq_true_iff]; omega
                    have hd' : (m : Int) + (k2 : Int) < (n : Int) := by omega
                    have hd0 : (0 : Int) ≤ (m : Int) + (k2 : Int) := by omega
                    have hkt : ((m : Int) + (k2 : Int)).toNat = m + k2 := by omega
                    generalize es[m + k2].t = y at *
                    subst hA2
                    clear hin d2
                    go_quiet (fail)
                    go_wp2_with fail
                    go_meet
                    refine ⟨_, nq, rfl, ?_, rfl⟩
                    have h9 := HTF.out
                    rw [show (((m + k2 : Nat) : Int)) + 1 = (m : Int) + 1 + (k2 : Int) from by omega] at h9
                    rw [h9]
                    simp
                  · have hd : decide ((m : Int) + (k2 : Int) < (n : Int)) = false := by rw [decide_eq_false_iff_not]; omega
                    have HTF := Lib.hid (termF_out (es := es) (i := (m : Int) + 1 + (k2 : Int)) (.inr (by have := HES.out; omega)))
                    clear hin
                    go_quiet (fail)
                    go_wp2_with fail
                    go_meet
                    refine ⟨_, nq, rfl, ?_, rfl⟩
                    rw [HTF.out]
                    simp
                case rest =>
                  obtain ⟨bq, N, rfl, hbq, rfl⟩ := hcut
                  have HB4 := Lib.hid (show Below wc.heap.size wc (W1.drewN N) from below_drewN hb3 N)
                  obtain ⟨g1, g2, g3⟩ := HG.out _ HB4.out
                  generalize W1.drewN N = W2 at *
                  cases bq with
                  | true =>
                    have HTR := Lib.hid (HMORE.out (hbq.1 rfl))
                    have hkb : (k2 : Int) ≤ 1048576 := by have := HNUM.out; omega
                    clear hbq
                    go_wp2_with fail
                    go_roundw
                    case rel => exact ⟨k2 + 1, HNUM.out.2.2.2.2.2.1, (by go_num), HTR.out, HB4.out⟩
                    case measure => have := HNUM.out.2.2.2.2.2.1; simp [intOf]; omega
                  | false =>
                    obtain ⟨hth, hp⟩ := HMIS.out (fun h => by have := hbq.2 h; cases this)
                    have HTH := Lib.hid hth
                    clear hth
                    rw [if_neg (by have := HNUM.out.2.2.2.2.2.1; omega)] at hp
                    clear hbq
                    by_cases hfull : (1024 : Int) < (m : Int) + (nl : Int)
                    · rw [if_pos hfull] at hp
                      have HP := Lib.hid hp
                      have hwk := wr_64 (z := (m : Int) + (nl : Int)) (by omega) (by have := HNUM.out; omega)
                      clear hp
                      go_wp2_with fail
                      go_ret3
                      exact PutRet.same HP.out rfl HES.out HROW.out (bthen HB0.out HB4.out)
                    · rw [if_neg hfull] at hp
                      have HP := Lib.hid hp
                      have hwk := wr_64 (z := (m : Int) + (nl : Int)) (by omega) (by have := HNUM.out; omega)
                      clear hp
                      go_upto_region 22 with (fail)
                      obtain ⟨i0, hi0, hz0, hz1, hz2⟩ := info_parts ent_row
                      obtain ⟨n1, n2, n3, n4, n5, n6, n7⟩ := HNUM.out
                      have hel : m + k2 ≤ es.length := by have h9 := thereF_bound es m l (by rw [HES.out]; omega); have h8 := HTH.out; rw [h8] at h9; omega
                      have htl : (es.take (m + k2)).length = m + k2 := by rw [List.length_take]; omega
                      have hdl : (l.drop k2).length = nl - k2 := by rw [List.length_drop, HL.out]
                      have hsl1 := fun W => ents_upto A n c (m + k2) ((m : Int) + (k2 : Int)) (by omega) (by have := HES.out; omega) W
                      have hsl2 := fun W => ents_from (some ⟨b, off, none⟩) nl cl k2 (k2 : Int) rfl (by omega) W
                      have HS2 := Lib.hid (fun (W : World) (hW : Below W2.heap.size W2 W) => Ents.drop (c := cl) (k := k2) (Sees.on HSC.out (bthen HB4.out hW) : Ents W W.heap.size (some ⟨b, off, none⟩) l) HL.out (by omega) n2)
                      generalize (if cl = k2 then some (⟨b, off, none⟩ : Addr) else (some (⟨b, off, none⟩ : Addr)).map (·.add (k2 * 2))) = A4 at *
                      have HE0 := Lib.hid (show FreeN 2 (W2.alloc (.cells #[] 62)) W2.heap.size 62 (some ⟨W2.heap.size, 0, none⟩) 0 0 [] from FreeN.of_own (World.ownsRow_made W2 _ 0 (Nat.le_refl _) (by decide) rfl))
                      have HBA := Lib.hid ((Below.refl W2.heap.size W2).alloc (Nat.le_refl _) (.cells #[] 62))
                      have HSR := Lib.hid (show Sees (W2.alloc (.cells #[] 62)) (W2.alloc (.cells #[] 62)).heap.size A ((m + k2) * 2) (ecs (es.take (m + k2))) by
                        have h9 := Ents.take (Sees.on HSEC.out (bthen HB4.out HBA.out) : Ents (W2.alloc (.cells #[] 62)) (W2.alloc (.cells #[] 62)).heap.size A es) (k := m + k2) hel
                        unfold Ents at h9
                        rwa [htl] at h9)
                      have HTL := Lib.hid htl
                      have HDL := Lib.hid hdl
                      have hm0 : m + nl ≤ 1024 := by omega
                      have hm1 : 0 + (m + k2) ≤ maxLen := Nat.le_trans (show 0 + (m + k2) ≤ 1024 by omega) (by decide)
                      have hm2 : (0 + (m + k2)) * 24 ≤ 140737488355328 := by clear hm1; omega
                      have hm3 : m + k2 + (nl - k2) ≤ maxLen := Nat.le_trans (show m + k2 + (nl - k2) ≤ 1024 by clear hm1; omega) (by decide)
                      have hm4 : (m + k2 + (nl - k2)) * 24 ≤ 140737488355328 := by clear hm1 hm3; omega
                      have hcA : ∀ o, (W2.alloc o).cell? ⟨w.heap.size, 3, none⟩ = some (.slice (some ⟨b, off, none⟩) nl cl) := fun o => (HG.out _ (HB4.out.trans (((Below.refl W2.heap.size W2).alloc (Nat.le_refl _) o).mono HB4.out.size))).2.2
                      have hw9 : IntKind.i64.wrap ((m : Int) + (k2 : Int) + 1) = (m : Int) + (k2 : Int) + 1 := wr_i64 (by clear hm1 hm3; omega) (by clear hm1 hm3; omega)
                      clear htl hdl hel hwk n1 n2 n3 n4 n5 n6 n7 hm0 hfull
                      go_region_law (first
                        | (refine step_append_freeN (sz := 2) rfl (.tmp 88) (.tmp 91) 23 rfl W2.heap.size 62 i0 _ 24 sl_ent hi0 hz0 hz1 hz2 rfl (by decide) (some ⟨W2.heap.size, 0, none⟩) 0 0 [] (by rfl) (by exact HE0.out) _ A (m + k2) c (ecs (es.take (m + k2))) (by rfl) (by exact HSR.out) (ecs_one _) hm1 hm2 (by simp) ?_
                           intro A1 c1 w4 ha1
                           have ha1' : AppendedN 2 (W2.alloc (.cells #[] 62)) W2.heap.size 62 (some ⟨W2.heap.size, 0, none⟩) 0 0 [] (m + k2) (ecs (es.take (m + k2))) A1 c1 w4 := ha1.same rfl rfl rfl rfl
                           have HB5 := Lib.hid (show Below W2.heap.size W2 w4 from ha1'.below HE0.out HBA.out HBA.out.size (Nat.le_refl _))
                           have g3' := (HG.out _ (HB4.out.trans (HB5.out.mono HB4.out.size))).2.2
                           have hf4 := ha1'.1
                           rw [Nat.zero_add, List.nil_append] at hf4
                           have HF4 := Lib.hid hf4
                           clear hf4
                           rw [Nat.zero_add]
                           have HS4 := Lib.hid (show Sees w4 w4.heap.size A4 ((nl - k2) * 2) (ecs (l.drop k2)) by have h9 := HS2.out w4 HB5.out; unfold Ents at h9; rwa [HDL.out] at h9))
                        | (refine step_append_freeN (sz := 2) rfl (.tmp 92) (.tmp 96) 23 rfl W2.heap.size 62 i0 _ 24 sl_ent hi0 hz0 hz1 hz2 rfl (by decide) A1 (m + k2) c1 (ecs (es.take (m + k2))) (by rfl) (by exact HF4.out) _ A4 (nl - k2) (cl - k2) (ecs (l.drop k2)) (by rfl) (by exact HS4.out) (ecs_one _) hm3 hm4 (by exact HB5.out.size) ?_
                           intro A2 c2 w5 ha2
                           have ha2' : AppendedN 2 w4 W2.heap.size 62 A1 (m + k2) c1 (ecs (es.take (m + k2))) (nl - k2) (ecs (l.drop k2)) A2 c2 w5 := ha2.same rfl rfl rfl rfl
                           have HB6 := Lib.hid (show Below W2.heap.size W2 w5 from ha2'.below HF4.out HB5.out HB5.out.size (Nat.le_refl _))
                           have HF6 := Lib.hid ha2'.1))
                      all_goals
                        go_wp2_with fail
                        go_ret3
                        obtain ⟨n1, n2, n3, n4, n5, n6, n7⟩ := HNUM.out
                        have hz5 := HB0.out.size
                        have hz6 := HB4.out.size
                        have hf6 := HF6.out
                        obtain ⟨k9, hk9, hk10⟩ := hf6.foot_some (by omega)
                        rw [← ecs_append] at hf6
                        rw [HP.out]
                        have e9 : ((m : Int) + (k2 : Int)).toNat = m + k2 := by omega
                        rw [e9]
                        exact ⟨A2, m + k2 + (nl - k2), c2, rfl, by rw [List.length_append, HTL.out, HDL.out], hf6.mono (by omega), .inr ⟨k9, hk9, by omega⟩, bthen HB0.out (bthen HB4.out HB6.out)⟩
              · have hlt' : ¬ (k2 : Int) < (nl : Int) := by omega
                have HP := Lib.hid (show putF es m q l = (es, 0, 0) by
                  rw [putF_there HF0.out (thereF_eq es m l k2 (by have := HL.out; omega) hup2 (fun h => absurd h (by have := HL.out; omega))), if_pos (by have := HL.out; omega)])
                clear hup2
                go_wp2_with fail
                go_ret3
                exact PutRet.same HP.out rfl HES.out HROW.out (bthen HB0.out hbel2)
      · have h4 : (q != t) = true := by simpa using hqt
        have HP := Lib.hid (putF_fits (es := es) (i := m) (t := t) (l := l) (k := 8) (by unfold fitsF; rw [HQ.out, if_neg (by simp), if_pos hqt]) (by omega))
        go_wp2_with fail
        go_ret3
        exact PutRet.same HP.out rfl HES.out HROW.out HB0.out
end Go.Proofs.Ytcmeindekbjefaa
