/- The walk of wal.Read. -/
import Derived.Test.YtmhgbpgbnfdokaaRec2
import Derived.Deep.RegionLaw
import Derived.Deep.AppendLies
import Derived.Deep.DeepCutAuto
namespace Go.Proofs.Ytmhgbpgbnfdokaa
open Go.RowKit

theorem head_cell {l : List UInt8} {u : Value} (h : (cbs l)[0]? = some u) : u = .int .u8 ((l.headD 0).toNat : Int) := by
  cases l with
  | nil => simp [cbs] at h
  | cons x t => simp [cbs, cb] at h; exact h.symm
theorem cbs_tail (l : List UInt8) : (cbs l).drop 1 = cbs l.tail := by cases l <;> simp [cbs]
theorem wrap_small {z : Int} (h0 : 0 ≤ z) (h : z ≤ 4611686018427387904) : IntKind.i64.wrap z = z := by rw [IntKind.wrap_i64]; omega

set_option maxRecDepth 100000 in
set_option maxHeartbeats 1600000 in
/-- wal.Read -/
theorem wread_any (A : Option Addr) (n c : Nat) (l : List UInt8) (w : World) (hs : Sees w w.heap.size A n (cbs l)) (hc : n ≤ c) (hm : c ≤ maxLen) (hn : n ≤ 1099511627776) :
    Calls Try.prog 73 #[.slice A n c] w (ReadRet w (readB l)) := by
  have hlen : l.length = n := by have := hs.1; simpa using this
  obtain ⟨i0, hi0, hz0, hz1, hz2⟩ := info_parts rec_row
  have HRB := Lib.hid (readB_all l)
  have hpb : (recP (allF l.length l).1).2.1 ≤ n := by have := recP_bound l.length l; omega
  have hpc : 8 * (allF l.length l).1.length ≤ n := by have := allF_count l.length l; omega
  have HA := Lib.hid (all_any A n c l w hs hc hm hn)
  clear hlen
  generalize allF l.length l = F at *
  obtain ⟨P, fe, ff⟩ := F
  simp only at hpb hpc HA HRB
  have HPB := Lib.hid hpb
  clear hpb hs hm
  go_enter Try.func73, Try.ntmps73
  go_wp2_with fail
  refine HA.out.mono ?_
  rintro e w1 ⟨A1, c1, ps, rfl, hps, hrow, hb1⟩
  simp only at hps
  have HPL := Lib.hid (show ps.length = P.length by rw [← hps, List.length_map])
  have HPS := Lib.hid hps
  clear hps HA
  go_wp2_with fail
  go_loopw [8, 9, 20] (fun v e i wr => ∃ (k m : Nat) (rs : List RecP) (A' : Option Addr) (c' : Nat), v = .slice A' rs.length c' ∧ e = .int .i64 (m : Int) ∧ i = .int .i64 (k : Int) ∧ RUp P k (rs.map RecP.m) m ∧ m ≤ n ∧ wr.ownsRow w1.heap.size 29 2 (.slice A' rs.length c') rs.length (rcs rs) ∧ (∀ r ∈ rs, Free w1 w.heap.size 5 r.A r.n r.c (cbs r.l)) ∧ Below w1.heap.size w1 wr) (fun _ _ i _ => ps.length - (intOf i).toNat)
  case atStart => exact ⟨0, 0, [], none, 0, rfl, rfl, rfl, RUp.start P, Nat.zero_le _, World.ownsRow_nil _ _ _ _, (fun r hr => by cases hr), Below.refl _ _⟩
  case round =>
    obtain ⟨k, m, rs, A', c', rfl, rfl, rfl, hup, hmn, hown, hfr, hbel⟩ := hrel
    have hk : k ≤ P.length := hup.1
    have HRL := Lib.hid (show rs.length = k by have := hup.2.1; simpa using this)
    have hbw := bthen hb1 hbel
    by_cases hlt : k < ps.length
    · obtain ⟨b, off, p, rfl, hbl, hp, hcell, hfp⟩ := rows_free hrow hlt
      have d1 := (hbel.cell (p := ⟨b, off + k, none⟩) hbl).trans hcell
      have hpk : P[k]? = some p.l := by rw [← HPS.out, List.getElem?_map, hp]; rfl
      have hpn : p.l.length = p.n := by have := hfp.1; simpa using this
      have hfw := hfp.on hbel
      have hlt' : (k : Int) < (ps.length : Int) := by omega
      clear hcell hp
      obtain ⟨A2, n2, c2, l2⟩ := p
      simp only at d1 hpk hpn hfw hfp
      by_cases h0 : l2.headD 0 = 0
      · have hfa := hup.fault hpk h0
        have hrb := HRB.out
        rw [hfa] at hrb
        simp only at hrb
        rw [if_neg (by simp)] at hrb
        have HR := Lib.hid hrb
        have HO := Lib.hid hown
        have hans : ReadRet w (readB l) (.returned (.tuple #[.slice A' rs.length c', .int .i64 (m : Int), .int .i64 2])) (wr) := by
          rw [HR.out]
          refine ⟨A', c', rs, rfl, rfl, ⟨⟨HO.out.1, ?_⟩, fun r hr => (hfr r hr).on hbel⟩, hbw⟩
          rcases HO.out.2 with h | ⟨g, cap, cur, hv, hg, rest⟩
          · exact .inl h
          · exact .inr ⟨g, cap, cur, hv, by have := hb1.size; omega, rest⟩
        have HANS := Lib.hid hans
        clear hfa hrb hown hans hfr hup
        by_cases hn2 : n2 = 0
        · subst hn2
          go_wp2_with fail
          go_ret3
          exact HANS.out
        · have hn2' : ¬ (n2 : Int) = 0 := by omega
          have hn3 : 0 < n2 := by omega
          obtain ⟨g, off2, u, rfl, _, _, hu, cu, _⟩ := hfw.at_ (k := 0) hn3
          have hue := head_cell hu
          rw [h0] at hue
          subst hue
          rw [Nat.add_zero] at cu
          clear hfw hfp hu
          go_wp2_with fail
          go_ret3
          exact HANS.out
      · have hn3 : 0 < n2 := by
          cases l2 with
          | nil => exact absurd rfl h0
          | cons x t => rw [← hpn]; simp
        have hn2' : ¬ (n2 : Int) = 0 := by omega
        obtain ⟨hup1, hpb1⟩ := hup.next hpk h0
        have hpb2 := HPB.out
        obtain ⟨g, off2, u, hA2, _, _, hu, cu, _⟩ := hfw.at_ (k := 0) hn3
        have hue := head_cell hu
        rw [Nat.add_zero] at cu
        generalize hx : l2.headD 0 = x at *
        have hx0 : ¬ (x.toNat : Int) = 0 := by
          have := u8_zero x
          rw [decide_eq_false h0, beq_eq_false_iff_ne] at this
          exact this
        subst hue
        have hsl := fun W => slice_one A2 n2 c2 hn3 W
        have hf3 := hfp.drop (k := 1) hn3
        rw [cbs_tail] at hf3
        generalize hA3 : (if c2 = 1 then A2 else A2.map (·.add 1)) = A3 at *
        clear hA3
        subst hA2
        have hbz := hbel.size
        have hm2 : rs.length + 1 ≤ maxLen := by have := HRL.out; have := HPL.out; unfold maxLen; omega
        have hm3 : (rs.length + 1) * 32 ≤ 140737488355328 := by have := HRL.out; have := HPL.out; omega
        have hszp : (n2 : Int) ≤ 4611686018427387904 := by omega
        have hq1 : ((n2 : Int) == 0) = false := by rw [beq_eq_false_iff_ne]; exact hn2'
        have hq2 : ((x.toNat : Int) == 0) = false := by rw [beq_eq_false_iff_ne]; exact hx0
        go_wp2_with fail
        have HO := Lib.hid hown
        have HN := Lib.hid hn3
        have HMB := Lib.hid (show m + (n2 + 8) ≤ n by rw [hpn] at hpb1; omega)
        clear hown hfw hu hpb1 hpb2 hup
        go_cut [8] (fun v wx => ∃ g2 c2', v = .slice (some ⟨g2, 0, none⟩) (rs.length + 1) c2' ∧ wx.ownsRow w1.heap.size 29 2 v (rs.length + 1) (rcs rs ++ [.int .u8 (x.toNat : Int), .slice A3 (n2 - 1) (c2 - 1)]) ∧ Below w1.heap.size w1 wx)
        case first =>
          go_region_law (refine step_append_lies _ rfl (.tmp 35) (.tmp 42) 22 rfl w1.heap.size 29 i0 _ 2 32 srec_u hi0 hz0 hz1 hz2 rfl (by decide) (.slice A' rs.length c') rs.length (rcs rs) (by simp [Act.eval]) (by first | exact HO.out.alloc _ | exact (HO.out.alloc _).drew) ⟨wr.heap.size, 0, none⟩ 1 1 [.int .u8 (x.toNat : Int), .slice A3 (n2 - 1) (c2 - 1)] (by simp [Act.eval]) rfl (World.news_of_block (heap_alloc_new _ _)) (by simp [Value.oneCell']) (by decide) hm2 hm3 (by simp; omega) _ rfl ?_; intro g2 c2' w3 hown3 hg3 hat3 hlt3)
          go_wp2_with fail
          go_meet
          exact ⟨g2, c2', rfl, hown3, ((hbel.alloc hbel.size _).drew).grown hg3 (by simp; omega) (fun q hq => (HO.out.lt q hq).1)⟩
        case rest =>
          obtain ⟨g2, c2', rfl, hown4, hb4⟩ := hcut
          have hmx : max (n2 : Int) 0 = (n2 : Int) := by omega
          obtain ⟨r1, hr1⟩ : ∃ r : RecP, r = ⟨x, A3, n2 - 1, c2 - 1, l2.tail⟩ := ⟨_, rfl⟩
          have hrn : (rs ++ [r1]).length = rs.length + 1 := by simp
          have hcs : rcs (rs ++ [r1]) = rcs rs ++ [.int .u8 (x.toNat : Int), .slice A3 (n2 - 1) (c2 - 1)] := by rw [rcs_append, hr1]; rfl
          have hms : (rs ++ [r1]).map RecP.m = rs.map RecP.m ++ [(x, l2.tail)] := by rw [hr1]; simp [RecP.m]
          have hmb : m + (n2 + 8) ≤ n := by have := HMB.out; omega
          have HRN := Lib.hid hrn
          have HCS := Lib.hid hcs
          have HMS := Lib.hid hms
          have HF1 := Lib.hid (show Free w1 w.heap.size 5 r1.A r1.n r1.c (cbs r1.l) by rw [hr1]; exact hf3)
          clear hrn hcs hms hr1
          go_wp2_with (go_at_call 101; refine (size_any (n2 : Int) _ hszp).mono ?_; rintro e w' ⟨rfl, rfl⟩)
          go_roundw
          case rel =>
            refine ⟨k + 1, m + (n2 + 8), rs ++ [r1], some ⟨g2, 0, none⟩, c2', by rw [HRN.out], by go_num, by go_num, ?_, hmb, by rw [HRN.out, HCS.out]; exact hown4, fun r hr => ?_, hb4⟩
            · rw [HMS.out, ← hpn]
              exact hup1
            · rcases List.mem_append.1 hr with h | h
              · exact hfr r h
              · rw [List.mem_singleton.1 h]
                exact HF1.out
          case measure => simp [intOf]; omega
    · have hkp : k = P.length := by have := HPL.out; omega
      have hst := hup.stop hkp
      have hrb := HRB.out
      rw [hst] at hrb
      simp only at hrb
      rw [if_pos trivial] at hrb
      have HR := Lib.hid hrb
      have hlt' : ¬ (k : Int) < (ps.length : Int) := by omega
      have hfrm : ∀ r ∈ rs, Free wr w.heap.size 5 r.A r.n r.c (cbs r.l) := fun r hr => (hfr r hr).on hbel
      have HO := Lib.hid hown
      have HF := Lib.hid hfrm
      have hbz := hb1.size
      clear hup hst hrb hown hfrm hfr
      go_wp2_with fail
      go_ret3
      rw [HR.out]
      refine ⟨A', c', rs, rfl, rfl, ⟨⟨HO.out.1, ?_⟩, HF.out⟩, hbw⟩
      rcases HO.out.2 with h | ⟨g, cap, cur, hv, hg, rest⟩
      · exact .inl h
      · exact .inr ⟨g, cap, cur, hv, by omega, rest⟩
end Go.Proofs.Ytmhgbpgbnfdokaa
