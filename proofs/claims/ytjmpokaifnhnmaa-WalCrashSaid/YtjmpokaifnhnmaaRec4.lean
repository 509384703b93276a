/- The walks of the document's own Read (kissinggateref05), and of the statements' comparison of rows of records. -/
import Derived.Test.YtjmpokaifnhnmaaRec3
namespace Go.Proofs.Ytjmpokaifnhnmaa
open Go.RowKit

theorem tok_conv (w : World) (B : Nat) (A : Option Addr) (n c : Nat) (l : List UInt8) (h : Sees w B A n (cbs l)) : (convert 22 9 (.slice A n c)).run Try.prog w = .ok (.string (tok l)) w := conv_sees' w B A n c l h

/-- what the document's own Read answers -/
def TokRet (w : World) (r : List RecM × Nat × Nat) (e : Ending) (w' : World) : Prop :=
  ∃ A c, e = .returned (.tuple #[.slice A r.1.length c, .int .i64 (r.2.1 : Int), .int .i64 (r.2.2 : Int)]) ∧ w'.ownsRow w.heap.size 37 2 (.slice A r.1.length c) r.1.length (tcs r.1) ∧ Below w.heap.size w w'
theorem TokRet.of {w w' : World} {r : List RecM × Nat × Nat} {rs : List RecM} {k f : Nat} {A : Option Addr} {c : Nat} (h : r = (rs, k, f)) (ho : w'.ownsRow w.heap.size 37 2 (.slice A rs.length c) rs.length (tcs rs)) (hb : Below w.heap.size w w') :
    TokRet w r (.returned (.tuple #[.slice A rs.length c, .int .i64 (k : Int), .int .i64 (f : Int)])) w' := by
  subst h
  exact ⟨A, c, rfl, ho, hb⟩

set_option maxRecDepth 100000 in
set_option maxHeartbeats 1600000 in
/-- kissinggateref05.Read -/
theorem refRead_any (A : Option Addr) (n c : Nat) (l : List UInt8) (w : World) (hs : Sees w w.heap.size A n (cbs l)) (hc : n ≤ c) (hm : c ≤ maxLen) (hn : n ≤ 1099511627776) :
    Calls Try.prog 8 #[.slice A n c] w (TokRet w (readB l)) := by
  have hlen : l.length = n := by have := hs.1; simpa using this
  obtain ⟨i0, hi0, hz0, hz1, hz2⟩ := info_parts rrec_row
  have HLEN := Lib.hid hlen
  have HS := Lib.hid hs
  have HM := Lib.hid hm
  clear hlen hs hm
  go_enter Try.func8, Try.ntmps8
  go_wp2_with fail
  go_loopw [5, 6] (fun v e wr => ∃ (rs : List RecM) (k : Nat) (A' : Option Addr) (c' : Nat), v = .slice A' rs.length c' ∧ e = .int .i64 (k : Int) ∧ BUp l rs k ∧ wr.ownsRow w.heap.size 37 2 (.slice A' rs.length c') rs.length (tcs rs) ∧ Below w.heap.size w wr) (fun _ e _ => n - (intOf e).toNat)
  case atStart => exact ⟨[], 0, none, 0, rfl, rfl, BUp.start l, World.ownsRow_nil _ _ _ _, Below.refl _ _⟩
  case round =>
    obtain ⟨rs, k, A', c', rfl, rfl, hup, hown, hbel⟩ := hrel
    have hkn : k ≤ n := by have := hup.1; have := HLEN.out; omega
    by_cases hlt : k < n
    · have hlt' : (k : Int) < (n : Int) := by omega
      have hck : ¬ c = k := by omega
      have hsr := HS.out.below hbel
      have hdr := hsr.drop (k := k) hkn hc
      rw [if_neg hck] at hdr
      have hd1 : (cbs l).drop k = cbs (l.drop k) := by simp [cbs]
      rw [hd1] at hdr
      have hB : w.heap.size ≤ wr.heap.size := hbel.size
      have hc1 : n - k ≤ c - k := by omega
      have hm1 : c - k ≤ maxLen := Nat.le_trans (Nat.sub_le _ _) HM.out
      have hn1 : n - k ≤ 140737488355328 := by omega
      have HT := Lib.hid (refTake_any (A.map (·.add k)) (n - k) (c - k) (l.drop k) w.heap.size wr hdr hB hc1 hm1 hn1)
      have HUP := Lib.hid hup
      have HOWN := Lib.hid hown
      clear hdr hd1 hc1 hm1 hn1 hsr hup hown
      go_wp2_with fail
      refine HT.out.mono ?_
      rintro e w1 ⟨A1, c1, rfl, hf1, hb1⟩
      have hlk : k < l.length := by rw [HLEN.out]; exact hlt
      have hown1 := own_on HOWN.out hb1
      have hbel1 := bthen hbel hb1
      by_cases hE : (takeF (l.drop k)).e = 0
      · have hkk := (takeF_some _ hE).2.1
        have hm0 := (takeF_some _ hE).1
        have hp4 := (takeF_some _ hE).2.2
        rw [List.length_drop] at hkk
        by_cases h0 : (takeF (l.drop k)).p.headD 0 = 0
        · have hfa := HUP.out.form hlk hE h0
          have HFA := Lib.hid hfa
          have HO1 := Lib.hid hown1
          clear hfa HUP HOWN HT hown1
          generalize takeF (l.drop k) = T at *
          obtain ⟨p, m, E⟩ := T
          simp only at hE hkk hf1 hm0 h0 hp4
          subst hE
          obtain ⟨pn, hpn⟩ : ∃ pn, p.length = pn := ⟨_, rfl⟩
          rw [hpn] at hf1
          clear hp4 hm0
          simp only [hpn]
          by_cases hn2 : pn = 0
          · subst hn2
            clear hpn
            go_wp2_with fail
            go_ret3
            exact TokRet.of HFA.out HO1.out hbel1
          · have hn2' : ¬ (pn : Int) = 0 := by omega
            have hn3 : 0 < pn := by omega
            obtain ⟨g, off2, u, rfl, _, _, hu, cu, _⟩ := hf1.at_ (k := 0) hn3
            have hue := head_cell hu
            rw [h0] at hue
            subst hue
            rw [Nat.add_zero] at cu
            clear hf1 hu hpn
            go_wp2_with fail
            go_ret3
            exact TokRet.of HFA.out HO1.out hbel1
        · have hup1 := HUP.out.next hlk hE h0
          have hbd := HUP.out.2.1
          have HUP1 := Lib.hid hup1
          clear hup1 HUP HOWN HT
          generalize takeF (l.drop k) = T at *
          obtain ⟨p, m, E⟩ := T
          simp only at hE hkk hf1 hm0 h0 hp4 HUP1
          subst hE
          obtain ⟨pn, hpn⟩ : ∃ pn, p.length = pn := ⟨_, rfl⟩
          rw [hpn] at hf1 hm0 hp4
          have hn3 : 0 < pn := by
            cases p with
            | nil => exact absurd rfl h0
            | cons x t => rw [← hpn]; simp
          simp only [hpn]
          clear hpn
          have hn2' : ¬ (pn : Int) = 0 := by omega
          have hkn2 : k + m ≤ n := by have := HLEN.out; omega
          obtain ⟨g, off2, u, hA2, _, _, hu, cu, _⟩ := hf1.at_ (k := 0) hn3
          have hue := head_cell hu
          rw [Nat.add_zero] at cu
          generalize hx : p.headD 0 = x at *
          have hx0 : ¬ (x.toNat : Int) = 0 := by
            have := u8_zero x
            rw [decide_eq_false h0, beq_eq_false_iff_ne] at this
            exact this
          subst hue
          have hsl := fun W => slice_one A1 pn c1 hn3 W
          have hf3 := hf1.drop (k := 1) hn3
          rw [cbs_tail] at hf3
          generalize hA3 : (if c1 = 1 then A1 else A1.map (·.add 1)) = A3 at *
          clear hA3
          subst hA2
          have hq1 : ((pn : Int) == 0) = false := by rw [beq_eq_false_iff_ne]; exact hn2'
          have hq2 : ((x.toNat : Int) == 0) = false := by rw [beq_eq_false_iff_ne]; exact hx0
          have hbz := hbel1.size
          have hcv := tok_conv w1.drew _ A3 (pn - 1) (c1 - 1) p.tail hf3.sees.drew
          have HO := Lib.hid hown1
          have hm2 : rs.length + 1 ≤ maxLen := by unfold maxLen; omega
          have hm3 : (rs.length + 1) * 24 ≤ 140737488355328 := by omega
          have hm0' : 0 < m := by omega
          clear hown1 hu hf1 hf3 hbd hm0 hp4 hkk
          generalize p.tail = pt at *
          go_wp2_with fail
          go_cut [5] (fun v wx => ∃ g2 c2', v = .slice (some ⟨g2, 0, none⟩) (rs.length + 1) c2' ∧ wx.ownsRow w.heap.size 37 2 v (rs.length + 1) (tcs rs ++ [.int .u8 (x.toNat : Int), .string (tok pt)]) ∧ Below w.heap.size w wx)
          case first =>
            go_region_law (refine step_append_lies _ rfl (.tmp 38) (.tmp 46) 30 rfl w.heap.size 37 i0 _ 2 24 srrec_u hi0 hz0 hz1 hz2 rfl (by decide) (.slice A' rs.length c') rs.length (tcs rs) (by simp [Act.eval]) (by first | exact HO.out.alloc _ | exact (HO.out.alloc _).drew) ⟨w1.heap.size, 0, none⟩ 1 1 [.int .u8 (x.toNat : Int), .string (tok pt)] (by simp [Act.eval]) rfl (World.news_of_block (heap_alloc_new _ _)) (by simp [Value.oneCell']) (by decide) hm2 hm3 (by simp; omega) _ rfl ?_; intro g2 c2' w3 hown3 hg3 hat3 hlt3)
            all_goals go_wp2_with fail
            all_goals
              go_meet
              exact ⟨g2, c2', rfl, hown3, ((hbel1.alloc hbel1.size _).drew).grown hg3 (by simp; omega) (fun q hq => (HO.out.lt q hq).1)⟩
          case rest =>
            obtain ⟨g2, c2', rfl, hown4, hb4⟩ := hcut
            have hrn : (rs ++ [(x, pt)]).length = rs.length + 1 := by simp
            have hcs : tcs (rs ++ [(x, pt)]) = tcs rs ++ [.int .u8 (x.toNat : Int), .string (tok pt)] := by rw [tcs_append]; rfl
            have HRN := Lib.hid hrn
            have HCS := Lib.hid hcs
            clear hrn hcs
            go_wp2_with fail
            go_roundw
            case rel => exact ⟨rs ++ [(x, pt)], k + m, some ⟨g2, 0, none⟩, c2', by rw [HRN.out], by go_num, HUP1.out, by rw [HRN.out, HCS.out]; exact hown4, hb4⟩
            case measure => simp [intOf]; omega
      · have hfa := HUP.out.fault hlk hE
        have hE' : ¬ ((takeF (l.drop k)).e : Int) = 0 := by omega
        have hE2 : (((takeF (l.drop k)).e : Int) == 0) = false := by rw [beq_eq_false_iff_ne]; exact hE'
        have HFA := Lib.hid hfa
        have HO1 := Lib.hid hown1
        clear hfa HUP HOWN HT hE hown1
        generalize takeF (l.drop k) = T at *
        go_wp2_with fail
        go_ret3
        exact TokRet.of HFA.out HO1.out hbel1
    · have hkn' : k = n := by omega
      have hst := hup.stop (by rw [HLEN.out]; exact hkn')
      have HST := Lib.hid hst
      have HO1 := Lib.hid hown
      have hlt' : ¬ (k : Int) < (n : Int) := by omega
      clear hst hup hown
      subst hkn'
      go_wp2_with fail
      go_ret3
      exact TokRet.of HST.out HO1.out hbel

set_option maxRecDepth 100000 in
set_option maxHeartbeats 1600000 in
/-- kissinggatelaw05.same, of the same records -/
theorem same5_any (B B' : Nat) (A A' : Option Addr) (n c c' : Nat) (rs : List RecP) (ts : List RecM) (w : World) (h : Recs w B A rs) (h' : Toks w B' A' ts) (hl : rs.map RecP.m = ts) (hn : rs.length = n) (hb : n ≤ 1099511627776) (hB : B ≤ w.heap.size) (hB' : B' ≤ w.heap.size) :
    Calls Try.prog 9 #[.slice A n c, .slice A' n c'] w fun e w' => e = .returned (.bool true) ∧ Below w.heap.size w w' := by
  have HN := Lib.hid hn
  have HT := Lib.hid (show ts.length = n by rw [← hl, List.length_map]; exact hn)
  have HEL := Lib.hid (fun (j : Nat) (hj : j < rs.length) (hj' : j < ts.length) => show ts[j] = (rs[j].k, rs[j].l) by subst hl; simp [RecP.m])
  have HA := Lib.hid h
  have HB := Lib.hid h'
  clear h h' hl hn
  go_enter Try.func9, Try.ntmps9
  go_wp2_with fail
  go_loopw [13] (fun i wr => ∃ k : Nat, k ≤ n ∧ i = .int .i64 (k : Int) ∧ Below w.heap.size w wr) (fun i _ => n - (intOf i).toNat)
  case atStart => exact ⟨0, Nat.zero_le _, rfl, Below.refl _ _⟩
  case round =>
    obtain ⟨k, hk, rfl, hbel⟩ := hrel
    by_cases hlt : k < n
    · have hj1 : k < rs.length := by rw [HN.out]; exact hlt
      have hj2 : k < ts.length := by rw [HT.out]; exact hlt
      obtain ⟨b, off, rfl, hbl, hc1, hc2, hs1⟩ := HA.out.at_ hj1
      obtain ⟨b', off', rfl, hbl', he1, he2⟩ := HB.out.at_ hj2
      have hel := HEL.out k hj1 hj2
      rw [hel] at he1 he2
      simp only at he1 he2
      have d1 := (hbel.cell (p := ⟨b, off + k * 2, none⟩) (Nat.lt_of_lt_of_le hbl hB)).trans hc1
      have d2 := (hbel.cell (p := ⟨b, off + k * 2 + 1, none⟩) (Nat.lt_of_lt_of_le hbl hB)).trans hc2
      have d3 := (hbel.cell (p := ⟨b', off' + k * 2, none⟩) (Nat.lt_of_lt_of_le hbl' hB')).trans he1
      have d4 := (hbel.cell (p := ⟨b', off' + k * 2 + 1, none⟩) (Nat.lt_of_lt_of_le hbl' hB')).trans he2
      have hs2 : Sees wr B rs[k].A rs[k].n (cbs rs[k].l) := hs1.keep (fun p hp => hbel.cell (Nat.lt_of_lt_of_le hp hB))
      have hlt' : (k : Int) < (n : Int) := by omega
      clear hc1 hc2 he1 he2 hs1 hbl hbl' hel
      generalize rs[k].k = x at *
      generalize rs[k].A = A2 at *
      generalize rs[k].n = n2 at *
      generalize rs[k].c = c2 at *
      generalize rs[k].l = l2 at *
      unfold cb at d1 d3
      have hv := fun m => tok_conv (wr.drewN m) B A2 n2 c2 l2 (hs2.drewN m)
      have hq : ((x.toNat : Int) != (x.toNat : Int)) = false := by simp
      go_wp2_with fail
      go_quiet (fail)
      go_wp2_with fail
      go_roundw
      case rel => exact ⟨k + 1, by omega, by go_num, below_drewN hbel _⟩
      case measure => simp [intOf]; omega
    · have hlt' : ¬ (k : Int) < (n : Int) := by omega
      go_wp2_with fail
      go_ret
      exact ⟨rfl, hbel⟩
end Go.Proofs.Ytjmpokaifnhnmaa
