/- HardPlays: which state any records tell, or that they are of no form, is the document's; whether a state may be, too. For every input, without a condition. -/
import Derived.Test.YtmhgbpgbnfdokaaRows
import Derived.Test.YtmhgbpgbnfdokaaFix6
import Derived.Test.YtmhgbpgbnfdokaaHdG
import Derived.Test.YtmhgbpgbnfdokaaOpen5
import Derived.Test.YtmhgbpgbnfdokaaOpen6
import Derived.ProofKit
import Derived.OpenShut
namespace Go.Proofs.Ytmhgbpgbnfdokaa.hardPlays
open Go.ChangeShapes Go.WideShapes Go.ChangeAt Go.RowKit
set_option linter.unusedVariables false

theorem own : ownKnob Try.prog.godebug = none := by kernel_rfl
theorem laidOut : laidOutB Try.prog = true := by kernel_rfl

set_option maxRecDepth 100000 in
set_option maxHeartbeats 3200000 in
theorem walk (A : Option Addr) (n c : Nat) (rs : List RecP) (s : StP) (A2 : Option Addr) (n2 c2 : Nat) (w : World) (hs : Recs w w.heap.size A rs) (hl : rs.length = n) (hs2 : Ents w w.heap.size A2 s.es) (hl2 : s.es.length = n2) :
    Calls Try.prog 3 #[.slice A n c, .agg #[.int .i64 s.t, .int .i64 s.v, .slice A2 n2 c2]] w fun e w' => e = .returned (.bool true) ∧ Below w.heap.size w w' := by
  have hA := Blk.new w 25 #[.int .i64 s.t, .int .i64 s.v, .slice A2 n2 c2]
  have hb0 := (Below.refl w.heap.size w).alloc (Nat.le_refl _) (.cells #[.int .i64 s.t, .int .i64 s.v, .slice A2 n2 c2] 25)
  have HC := Lib.hid (fun (W : World) (hW : Below (w.alloc (.cells #[.int .i64 s.t, .int .i64 s.v, .slice A2 n2 c2] 25)).heap.size (w.alloc (.cells #[.int .i64 s.t, .int .i64 s.v, .slice A2 n2 c2] 25)) W) => Blk3 (hA.below hW hA.lt))
  have HS0 := Lib.hid (show Recs (w.alloc (.cells #[.int .i64 s.t, .int .i64 s.v, .slice A2 n2 c2] 25)) w.heap.size A rs from hs.below hb0)
  have HE0 := Lib.hid (show Ents (w.alloc (.cells #[.int .i64 s.t, .int .i64 s.v, .slice A2 n2 c2] 25)) (w.alloc (.cells #[.int .i64 s.t, .int .i64 s.v, .slice A2 n2 c2] 25)).heap.size A2 s.es from Sees.on hs2 hb0)
  have HB0 := Lib.hid hb0
  have HL := Lib.hid hl
  have HL2 := Lib.hid hl2
  clear hA hs hs2 hb0 hl hl2
  go_enter Try.func3, Try.ntmps3
  go_wp2_with fail
  generalize w.alloc (.cells #[.int .i64 s.t, .int .i64 s.v, .slice A2 n2 c2] 25) = w0 at *
  refine (fixed6_any _).mono ?_
  rintro e w1 ⟨rfl, hb1⟩
  have HB1 := Lib.hid hb1
  obtain ⟨c0, c1, c2'⟩ := HC.out _ hb1
  clear hb1
  by_cases hz1 : 60 < n
  · have hz2 : (60 : Int) < (n : Int) := by omega
    clear hz1
    go_wp2_with fail
    go_ret
    exact ⟨rfl, HB0.out.trans (HB1.out.mono HB0.out.size)⟩
  · have hz2 : ¬ (60 : Int) < (n : Int) := by omega
    by_cases hy1 : 60 < n2
    · have hy2 : (60 : Int) < (n2 : Int) := by omega
      clear hz1 hy1
      go_wp2_with fail
      go_ret
      exact ⟨rfl, HB0.out.trans (HB1.out.mono HB0.out.size)⟩
    · have hy2 : ¬ (60 : Int) < (n2 : Int) := by omega
      have HZ := Lib.hid (show n ≤ 60 ∧ n2 ≤ 60 by omega)
      clear hz1 hy1
      go_wp2_with fail
      clear hz2 hy2 c0 c1 c2'
      go_loopw [24] (fun iv wr => ∃ k : Nat, k ≤ n ∧ iv = .int .i64 (k : Int) ∧ (∀ (j : Nat) (hj : j < rs.length), j < k → rs[j].n ≤ 700) ∧ Below w1.heap.size w1 wr) (fun iv _ => n - (intOf iv).toNat)
      case atStart => exact ⟨0, Nat.zero_le _, rfl, (fun j _ h => absurd h (by omega)), Below.refl _ _⟩
      case round =>
        obtain ⟨k, hk, rfl, hall, hbel⟩ := hrel
        by_cases hlt : k < n
        · have hkr : k < rs.length := by have := HL.out; omega
          obtain ⟨b, off, rfl, hbl, d0, d1, _⟩ := HS0.out.at_ hkr
          have hbl1 : b < w0.heap.size := Nat.lt_of_lt_of_le hbl HB0.out.size
          have hbw : Below w0.heap.size w0 wr := bthen HB1.out hbel
          have d0' := (hbw.cell (p := ⟨b, off + k * 2, none⟩) hbl1).trans d0
          have d1' := (hbw.cell (p := ⟨b, off + k * 2 + 1, none⟩) hbl1).trans d1
          have hlt' : (k : Int) < (n : Int) := by omega
          have hk60 : (k : Int) ≤ 60 := by have := HZ.out; omega
          have hbx := hbel.alloc hbel.size (.cells #[.int .u8 (rs[k].k.toNat : Int), .slice rs[k].A rs[k].n rs[k].c] 29)
          have hx := Blk.new wr 29 #[.int .u8 (rs[k].k.toNat : Int), .slice rs[k].A rs[k].n rs[k].c]
          have HALL := Lib.hid hall
          have HK := Lib.hid hlt
          have HBX := Lib.hid hbx
          unfold cb at d0'
          obtain ⟨nx, hnx⟩ : ∃ nx, rs[k].n = nx := ⟨_, rfl⟩
          have HNX := Lib.hid hnx
          have e1 : (wr.alloc (.cells #[.int .u8 (rs[k].k.toNat : Int), .slice rs[k].A rs[k].n rs[k].c] 29)).cell? ⟨wr.heap.size, 1, none⟩ = some (.slice rs[k].A rs[k].n rs[k].c) := by rw [hx.cell]; rfl
          clear d0 d1 hbl hbl1 hbw hbel hbx hx hall hlt hk
          rw [hnx] at d1' e1 HBX
          clear hnx
          by_cases hx : nx ≤ 700
          · have hx' : ¬ (700 : Int) < (nx : Int) := by omega
            have HNE := Lib.hid (fun (j : Nat) (hj : j < rs.length) (h : j < k + 1) => show rs[j].n ≤ 700 by
              by_cases e : j = k
              · subst e; have := HNX.out; omega
              · exact HALL.out j hj (by omega))
            clear hx
            generalize rs[k].k = kx at *
            generalize rs[k].A = Ax at *
            generalize rs[k].c = cx at *
            go_wp2_with fail
            go_roundw
            case rel => exact ⟨k + 1, HK.out, by go_num, HNE.out, HBX.out⟩
            case measure => have := HK.out; simp [intOf]; omega
          · have hx' : (700 : Int) < (nx : Int) := by omega
            clear hx
            generalize rs[k].k = kx at *
            generalize rs[k].A = Ax at *
            generalize rs[k].c = cx at *
            go_wp2_with fail
            go_ret
            exact ⟨rfl, HB0.out.trans ((HB1.out.trans (HBX.out.mono HB1.out.size)).mono HB0.out.size)⟩
        · have hlt' : ¬ (k : Int) < (n : Int) := by omega
          have HALL := Lib.hid (show ∀ r ∈ rs, r.n ≤ 700 from fun r hr => by
            obtain ⟨j, hj, rfl⟩ := List.getElem_of_mem hr
            exact hall j hj (by have := HL.out; omega))
          have HBR := Lib.hid (bthen HB1.out hbel)
          have hsr : Recs wr wr.heap.size A rs := by
            have h := HS0.out.below (HBR.out.mono HB0.out.size)
            exact ⟨h.1.more (Nat.le_trans HB0.out.size HBR.out.size), fun r hr => (h.2 r hr).more (Nat.le_trans HB0.out.size HBR.out.size)⟩
          have HSR := Lib.hid hsr
          have HMB := Lib.hid (show ∀ m ∈ rs.map RecP.m, m.2.length ≤ 1073741824 from fun m hm => by
            obtain ⟨r, hr, rfl⟩ := List.mem_map.1 hm
            have h1 := (hsr.2 r hr).1
            have h2 := HALL.out r hr
            simp only [cbs_length] at h1
            simp only [RecP.m]
            omega)
          clear hall hk hlt hsr
          go_wp2_with fail
          refine (Play_any A n c rs wr HSR.out HL.out (by have := HZ.out; omega) (fun r hr => by have := HALL.out r hr; omega)).mono ?_
          intro e w2 hg
          obtain ⟨g, A', n', c', z, rfl, hge, hgl, hgn, hg0, hg1, hb2⟩ := got_ans hg
          have HG0 := Lib.hid hg0
          have HG1 := Lib.hid hg1
          have HGL := Lib.hid hgl
          have HGN := Lib.hid hgn
          have hbg := (Below.refl w2.heap.size w2).alloc (Nat.le_refl _) (.cells #[.int .i64 g.t, .int .i64 g.v, .slice A' n' c'] 25)
          have HGB := Lib.hid (Blk.new w2 25 #[.int .i64 g.t, .int .i64 g.v, .slice A' n' c'])
          have HGE := Lib.hid (show Ents _ _ A' g.es from Sees.on hge hbg)
          have HB3 := Lib.hid (bthen HBR.out (bthen hb2 hbg))
          have HS3 := Lib.hid (show Recs _ _ A rs from ⟨Sees.on HSR.out.1 (bthen hb2 hbg), fun r hr => Sees.on (HSR.out.2 r hr) (bthen hb2 hbg)⟩)
          clear hg hg0 hg1 hge hgl hgn hb2 hbg hbel hlt'
          go_wp2_with fail
          generalize w2.heap.size = gG at *
          generalize w2.alloc (.cells #[.int .i64 g.t, .int .i64 g.v, .slice A' n' c'] 25) = w3 at *
          refine (plain_any A n c rs w3 HS3.out HL.out (by have := HZ.out; omega)).mono ?_
          rintro e w4 ⟨A4, c4, rfl, hf4, hb4⟩
          have HML := Lib.hid (show (rs.map RecP.m).length ≤ 60 by rw [List.length_map, HL.out]; exact HZ.out.1)
          have HF4 := Lib.hid hf4
          have HB4 := Lib.hid hb4
          clear hf4 hb4
          generalize rs.map RecP.m = ms at *
          go_wp2_with fail
          refine (refPlay_any A4 ms.length c4 ms w4 HF4.out.sees rfl (by have := HML.out; omega) HMB.out).mono ?_
          intro e w5 hw
          obtain ⟨h, A5, n5, c5, q, rfl, hhe, hhl, hhn, hh0, hh1, hb5⟩ := want_ans hw
          have HH0 := Lib.hid hh0
          have HH1 := Lib.hid hh1
          have HHL := Lib.hid hhl
          have HHN := Lib.hid hhn
          have hbg := (Below.refl w5.heap.size w5).alloc (Nat.le_refl _) (.cells #[.int .i64 h.t, .int .i64 h.v, .slice A5 n5 c5] 25)
          have HHB := Lib.hid (Blk.new w5 25 #[.int .i64 h.t, .int .i64 h.v, .slice A5 n5 c5])
          have HHE := Lib.hid (show Ents _ _ A5 h.es from Sees.on hhe hbg)
          have HB36 := Lib.hid (bthen HB4.out (bthen hb5 hbg))
          clear hw hh0 hh1 hhe hhl hhn hb5 hbg
          go_upto_region 13 with (fail)
          generalize w5.heap.size = gH at *
          generalize w5.alloc (.cells #[.int .i64 h.t, .int .i64 h.v, .slice A5 n5 c5] 25) = w6 at *
          have HB6 := Lib.hid (bthen HB3.out HB36.out)
          have HE6 := Lib.hid (show Ents w6 w6.heap.size A2 s.es from Sees.on HE0.out HB6.out)
          obtain ⟨q0, hq0⟩ : ∃ q0, rightS s = q0 := ⟨_, rfl⟩
          have Q1 := Lib.hid (fun W (hW : Below w6.heap.size w6 W) => (hq0 ▸ right_any s A2 n2 c2 W (Sees.on HE6.out hW) HL2.out (by have := HZ.out; omega) : Calls Try.prog 14 #[.agg #[.int .i64 s.t, .int .i64 s.v, .slice A2 n2 c2]] W fun e w' => e = .returned (.bool q0) ∧ Below W.heap.size W w'))
          have Q3 := Lib.hid (fun W (hW : Below w6.heap.size w6 W) => (hq0 ▸ refRight6_any s A2 n2 c2 W (Sees.on HE6.out hW) HL2.out (by have := HZ.out; omega) : Calls Try.prog 15 #[.agg #[.int .i64 s.t, .int .i64 s.v, .slice A2 n2 c2]] W fun e w' => e = .returned (.bool q0) ∧ Below W.heap.size W w'))
          have HBB : Hid (Below w6.heap.size w6 w6.drew) := Lib.hid (Below.refl w6.heap.size w6).drew
          obtain ⟨c0, c1, c2'⟩ := HC.out _ HB6.out
          clear hq0
          go_cut [48] (fun v wx => v = .bool false ∧ Below w6.heap.size w6 wx)
          case first =>
            go_region_law (first
              | (refine step_calls rfl 14 (.tmp 44) 25 rfl Try.func14 (by kernel_rfl) rfl (.agg #[.int .i64 s.t, .int .i64 s.v, .slice A2 n2 c2]) (by rfl) _ (Q1.out _ HBB.out) ?_
                 rintro e wx ⟨rfl, hbx⟩
                 refine ⟨_, rfl, ?_⟩
                 have hby := bthen HBB.out hbx
                 have HBB := Lib.hid hby
                 obtain ⟨c0, c1, c2'⟩ := HC.out _ (bthen HB6.out hby)
                 clear hby hbx)
              | (refine step_calls rfl 15 (.tmp 46) 25 rfl Try.func15 (by kernel_rfl) rfl (.agg #[.int .i64 s.t, .int .i64 s.v, .slice A2 n2 c2]) (by rfl) _ (Q3.out _ HBB.out) ?_
                 rintro e wx ⟨rfl, hbx⟩
                 refine ⟨_, rfl, ?_⟩
                 have hby := bthen HBB.out hbx
                 have HBB := Lib.hid hby
                 obtain ⟨c0, c1, c2'⟩ := HC.out _ (bthen HB6.out hby)
                 clear hby hbx))
            all_goals
              go_wp2_with fail
              go_meet
              exact ⟨by simp, HBB.out⟩
          case rest =>
            obtain ⟨rfl, hbc⟩ := hcut
            have hgb := HGB.out.below (bthen HB36.out hbc) HGB.out.lt
            have hhb := HHB.out.below hbc HHB.out.lt
            obtain ⟨g0, g1, g2⟩ := Blk3 hgb
            obtain ⟨h0, h1, h2⟩ := Blk3 hhb
            have HBF := Lib.hid (bthen HB6.out hbc)
            have HGE2 := Lib.hid (show Ents wc wc.heap.size A' g.es from Sees.on HGE.out (bthen HB36.out hbc))
            have HHE2 := Lib.hid (show Ents wc wc.heap.size A5 h.es from Sees.on HHE.out hbc)
            have HGB2 := Lib.hid hgb
            clear c0 c1 c2' hgb hhb hbc HBB Q1 Q3
            obtain ⟨o, ho⟩ : ∃ o, playF ms = o := ⟨_, rfl⟩
            have HO := Lib.hid ho
            clear ho
            cases o with
            | none =>
              obtain ⟨rfl, hg⟩ := HG0.out HO.out
              have hq := HH0.out HO.out
              subst hg
              subst hq
              have hn0 : n' = 0 := by have := HGL.out; simpa using this.symm
              subst hn0
              have HSA := Lib.hid (same6_any ⟨0, 0, []⟩ ⟨0, 0, []⟩ A' none 0 0 c' 0 wc HGE2.out rfl (Ents.nil _ _ _) rfl (by decide))
              simp only at g0 g1 g2
              go_wp2_with fail
              refine HSA.out.mono ?_
              rintro e w7 ⟨r, rfl, hr, hb7⟩
              have hr1 := hr trivial
              subst hr1
              have HB7 := Lib.hid (bthen HBF.out hb7)
              clear hb7 hr g0 g1 g2 h0 h1 h2
              go_wp2_with fail
              go_ret
              exact ⟨rfl, HB0.out.trans (HB7.out.mono HB0.out.size)⟩
            | some s' =>
              obtain ⟨rfl, hg⟩ := HG1.out s' HO.out
              obtain ⟨hq, hh⟩ := HH1.out s' HO.out
              subst hg
              subst hq
              subst hh
              have HSA := Lib.hid (same6_any h h A' A5 n' n5 c' c5 wc HGE2.out HGL.out HHE2.out HHL.out (by have := HGN.out; omega))
              have HRI := Lib.hid (playF_right HO.out)
              go_wp2_with fail
              refine HSA.out.mono ?_
              rintro e w7 ⟨r, rfl, hr, hb7⟩
              have hr1 := hr trivial
              subst hr1
              have HB7 := Lib.hid (bthen HBF.out hb7)
              have hgb7 := HGB2.out.below hb7 HGB2.out.lt
              have HGE3 := Lib.hid (show Ents w7 w7.heap.size A' h.es from Sees.on HGE2.out hb7)
              clear hr g0 g1 g2 h0 h1 h2 hb7
              obtain ⟨g0, g1, g2⟩ := Blk3 hgb7
              clear hgb7
              go_wp2_with fail
              refine (right_any h A' n' c' w7 HGE3.out HGL.out (by have := HGN.out; omega)).mono ?_
              rintro e w8 ⟨rfl, hb8⟩
              rw [HRI.out]
              have HB8 := Lib.hid (bthen HB7.out hb8)
              clear hb8 g0 g1 g2
              go_wp2_with fail
              go_ret
              exact ⟨rfl, HB0.out.trans (HB8.out.mono HB0.out.size)⟩

set_option maxRecDepth 100000 in
theorem lifted (os : Os) (started : os.Started) (H : Type) (enc : TypeId × Value → H) :
    ReturnsInHanded {} Try.checked os 3 .any (Rows.hardPlaysSpec.pre6 enc Try.prog Try.f3 Rows.hardPlaysRow.domain false) (Rows.hardPlaysSpec.post enc Try.prog Try.f3 false true false false) := by
  refine returnsInHanded_of_change (C := Try.checked) own started (by kernel_rfl) Try.func3
    (ChangeSpec.witness6 (enc := enc) (C := Try.checked) false ⟨#[], #[.slice none 0 0, .agg #[.int .i64 0, .int .i64 0, .slice none 0 0]], []⟩ 8 (by kernel_rfl) (by kernel_rfl) (by kernel_rfl) (by kernel_rfl)) ?_
  intro W base args ds gs before hval0 hW hcnd _
  have hval : ∀ (j : Nat) t v, Try.f3.params[j]? = some t → args[j]? = some v → Value.okWide Try.prog W .any base t v := hval0
  have hW' := hW
  obtain ⟨p, q, hA0, hV, rfl, hfz, hnd⟩ := hW
  have hA : DataW.TrodAll enc Try.prog W 0 (fun _ => true) true Try.f3.params.toList args.toList ds p := hA0
  rw [Try.params3] at hA hval
  obtain ⟨v0, vs0, d0, ds0, p0, q0, hargs, rfl, rfl, h0, r0⟩ := trodAll_cons hA
  obtain ⟨v1, vs1, d1, ds1, p1, q1, rfl, rfl, rfl, h1, r1⟩ := trodAll_cons r0
  obtain ⟨rfl, rfl, rfl⟩ := trodAll_nil r1
  obtain rfl : args = #[v0, v1] := by cases args; simp_all
  obtain ⟨rfl, rfl⟩ := trodVars_none hV
  obtain ⟨a0, len0, cap0, rfl⟩ := okWide_slice Try.underlying22 (hval 0 22 v0 rfl rfl)
  have k0 := h0
  have lt0 : ∀ x ∈ p0, x.block < W.heap.size := by obtain ⟨m, hm⟩ := k0; exact DataW.trod_lt m _ _ _ hm
  have k1 := h1
  have lt1 : ∀ x ∈ p1, x.block < W.heap.size := by obtain ⟨m, hm⟩ := k1; exact DataW.trod_lt m _ _ _ hm
  obtain ⟨m0, h0⟩ := h0
  obtain ⟨hl0, hc0, rs, hrn, hrs, hrc⟩ := open_recs h0
  obtain ⟨s, A, n, c, rfl, hnc, hcm, hl, hs⟩ := open_state (hval 1 25 v1 rfl rfl) h1
  clear hA0 hval0
  refine (walk a0 len0 cap0 rs s A n c W hrs hrn hs hl).mono fun e W' ⟨he, bel⟩ => ?_
  subst he
  exact ⟨_, rfl, _, _, _, [], _, [], hW', trodAll_mk1 (shut_bool Try.underlying4 _), (trodAll_cons_mk (Below.trod laidOut (by kernel_rfl) (of_decide_eq_true (by kernel_rfl)) k0 bel lt0) (trodAll_cons_mk (Below.trod laidOut (by kernel_rfl) (of_decide_eq_true (by kernel_rfl)) k1 bel lt1) trodAll_mk0)), rfl, bel.frame _, fun h => by cases h⟩

theorem over : Rows.hardPlaysRow.holds Try.pinned (OpenSpec.ofChange Rows.hardPlaysSpec) :=
  OpenClaim.holds_of_wide 3 Try.f3 rfl rfl rfl rfl rfl rfl rfl ⟨rfl, rfl, rfl, rfl, rfl⟩ rfl rfl rfl rfl rfl (by kernel_rfl) Try.func3 (by kernel_rfl)
    (of_decide_eq_true (by kernel_rfl)) (by unfold Func.isWrapper; first | (rw [if_pos (by decide +kernel)]; kernel_rfl) | (rw [if_neg (by decide +kernel)]; exact ⟨rfl, rfl⟩))
    (fun os started H enc _ => lifted os started H enc)

theorem proved : Rows.HardPlaysSaid :=
  over
#print axioms proved
end Go.Proofs.Ytmhgbpgbnfdokaa.hardPlays
