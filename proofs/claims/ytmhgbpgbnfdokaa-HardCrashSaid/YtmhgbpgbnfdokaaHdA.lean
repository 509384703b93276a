/- The walks of layer 6's statements' own few and plain. -/
import Derived.Test.YtmhgbpgbnfdokaaHd9
namespace Go.Proofs.Ytmhgbpgbnfdokaa
open Go.RowKit

def fewF (s : SvP) : Bool := s.es.all (fun x => decide (x.s.size ≤ 600)) && decide (s.es.length ≤ 12)

set_option maxRecDepth 100000 in
set_option maxHeartbeats 800000 in
theorem few_any (s : SvP) (A : Option Addr) (n c : Nat) (w : World) (hs : Ents w w.heap.size A s.es) (hl : s.es.length = n) (hn : n ≤ 9223372036854775807) :
    Calls Try.prog 17 #[.agg #[.bool s.hard, .int .i64 s.t, .int .i64 s.v, .int .i64 s.f, .slice A n c]] w fun e w' => e = .returned (.bool (fewF s)) ∧ Below w.heap.size w w' := by
  obtain ⟨hd, t, v, f, es⟩ := s
  simp only at hs hl ⊢
  have hA := Blk.new w 41 #[.bool hd, .int .i64 t, .int .i64 v, .int .i64 f, .slice A n c]
  have hb0 := (Below.refl w.heap.size w).alloc (Nat.le_refl _) (.cells #[.bool hd, .int .i64 t, .int .i64 v, .int .i64 f, .slice A n c] 41)
  have hs0 : Ents (w.alloc (.cells #[.bool hd, .int .i64 t, .int .i64 v, .int .i64 f, .slice A n c] 41)) (w.alloc (.cells #[.bool hd, .int .i64 t, .int .i64 v, .int .i64 f, .slice A n c] 41)).heap.size A es := Sees.on hs hb0
  have HC := Lib.hid (fun (W : World) (hW : Below (w.alloc (.cells #[.bool hd, .int .i64 t, .int .i64 v, .int .i64 f, .slice A n c] 41)).heap.size (w.alloc (.cells #[.bool hd, .int .i64 t, .int .i64 v, .int .i64 f, .slice A n c] 41)) W) =>
    have hk := hA.below hW hA.lt
    (by rw [hk.cell]; rfl : W.cell? ⟨w.heap.size, 4, none⟩ = some (.slice A n c)))
  have c4 := HC.out _ (Below.refl _ _)
  clear hA hs
  unfold fewF
  simp only
  go_enter Try.func17, Try.ntmps17
  go_wp2_with fail
  generalize w.alloc (.cells #[.bool hd, .int .i64 t, .int .i64 v, .int .i64 f, .slice A n c] 41) = w0 at *
  have HB0 := Lib.hid hb0
  have HS0 := Lib.hid hs0
  have HL := Lib.hid hl
  have HN := Lib.hid hn
  clear hb0 hs0 hl hn
  go_loopw [8] (fun iv wr => ∃ (k : Nat), k ≤ n ∧ iv = .int .i64 (k : Int) ∧ (es.take k).all (fun x => decide (x.s.size ≤ 600)) = true ∧ Below w0.heap.size w0 wr) (fun iv _ => n - (intOf iv).toNat)
  case atStart => exact ⟨0, Nat.zero_le _, rfl, rfl, Below.refl _ _⟩
  case round =>
    obtain ⟨k, hk, rfl, hall, hbel⟩ := hrel
    clear c4
    by_cases hlt : k < n
    · have hkl : k < es.length := by have := HL.out; omega
      obtain ⟨b, off, rfl, hbl, d0, d1⟩ := Ents.at_ HS0.out hkl
      have d0' := (hbel.cell (p := ⟨b, off + k * 2, none⟩) hbl).trans d0
      have d1' := (hbel.cell (p := ⟨b, off + k * 2 + 1, none⟩) hbl).trans d1
      have hlt' : (k : Int) < (n : Int) := by omega
      have hk20 : (k : Int) + 1 ≤ 9223372036854775807 := by have := HN.out; omega
      have hts : (es.take (k + 1)).all (fun x => decide (x.s.size ≤ 600)) = ((es.take k).all (fun x => decide (x.s.size ≤ 600)) && decide (es[k].s.size ≤ 600)) := by
        rw [List.take_succ_eq_append_getElem hkl, List.all_append]
        simp
      have hmem : ¬ es[k].s.size ≤ 600 → es.all (fun x => decide (x.s.size ≤ 600)) = false := fun h => by
        rw [List.all_eq_false]
        exact ⟨es[k], List.getElem_mem hkl, by simpa using h⟩
      have hbe := (Below.refl wr.heap.size wr).alloc (Nat.le_refl _) (.cells #[.int .i64 es[k].t, .string es[k].s] 73)
      have hxe := Blk.new wr 73 #[.int .i64 es[k].t, .string es[k].s]
      rw [hall] at hts
      have HTS := Lib.hid hts
      have HMEM := Lib.hid hmem
      have HBE := Lib.hid (hbel.trans (hbe.mono hbel.size))
      have HK := Lib.hid (show k < n from hlt)
      clear d0 d1 hts hmem hbe hbl hall hbel
      generalize es[k] = x at *
      have e0 : (wr.alloc (.cells #[.int .i64 x.t, .string x.s] 73)).cell? ⟨wr.heap.size, 0, none⟩ = some (.int .i64 x.t) := by rw [hxe.cell]; rfl
      have e1 : (wr.alloc (.cells #[.int .i64 x.t, .string x.s] 73)).cell? ⟨wr.heap.size, 1, none⟩ = some (.string x.s) := by rw [hxe.cell]; rfl
      clear hxe hkl hlt hk
      by_cases hx : x.s.size ≤ 600
      · have hx' : ¬ (600 : Int) < (x.s.size : Int) := by omega
        have HX := Lib.hid hx
        clear hx
        go_wp2_with fail
        go_roundw
        case rel => exact ⟨k + 1, HK.out, by go_num, by rw [HTS.out]; simpa using HX.out, HBE.out⟩
        case measure => have := HK.out; simp [intOf]; omega
      · have hx' : (600 : Int) < (x.s.size : Int) := by omega
        have HX := Lib.hid hx
        clear hx
        go_wp2_with fail
        go_ret
        rw [HMEM.out HX.out]
        exact ⟨rfl, HB0.out.trans (HBE.out.mono HB0.out.size)⟩
    · have hlt' : ¬ (k : Int) < (n : Int) := by omega
      have hkn : k = n := by omega
      subst hkn
      have c4 := HC.out _ hbel
      rw [List.take_of_length_le (by have := HL.out; omega)] at hall
      have HALL := Lib.hid hall
      have HBE := Lib.hid (HB0.out.trans (hbel.mono HB0.out.size))
      clear hall hbel hk hlt
      go_wp2_with fail
      go_ret
      rw [HALL.out, HL.out]
      refine ⟨?_, HBE.out⟩
      rw [Bool.true_and, show decide (k ≤ 12) = decide ((k : Int) ≤ 12) from decide_eq_decide.2 (by omega)]
      rfl

/-- what plain answers: the document's own records -/
def PlainRet (w : World) (ms : List RecM) (e : Ending) (w' : World) : Prop :=
  ∃ A c, e = .returned (.slice A ms.length c) ∧ FreeN 2 w' w.heap.size 46 A ms.length c (tcs ms) ∧ Below w.heap.size w w'
theorem tcs_one1 (l : List RecM) : ∀ u ∈ tcs l, u.oneCell' = true := by
  intro u hu
  unfold tcs at hu
  rw [List.mem_flatMap] at hu
  obtain ⟨r, _, hr⟩ := hu
  unfold tcells cb at hr
  simp at hr
  rcases hr with rfl | rfl <;> rfl

set_option maxRecDepth 100000 in
set_option maxHeartbeats 800000 in
theorem plain_any (A : Option Addr) (n c : Nat) (rs : List RecP) (w : World) (hs : Recs w w.heap.size A rs) (hl : rs.length = n) (hn : n ≤ 1048577) :
    Calls Try.prog 13 #[.slice A n c] w (PlainRet w (rs.map RecP.m)) := by
  obtain ⟨i0, hi0, hz0, hz1, hz2⟩ := info_parts rrec_row
  have HS := Lib.hid hs
  have HL := Lib.hid hl
  have HN := Lib.hid hn
  clear hs hl hn
  go_enter Try.func13, Try.ntmps13
  go_wp2_with fail
  go_loopw [3, 8] (fun rv iv wr => ∃ (k : Nat) (A2 : Option Addr) (c2 : Nat), k ≤ n ∧ rv = .slice A2 k c2 ∧ iv = .int .i64 (k : Int) ∧ FreeN 2 wr w.heap.size 46 A2 k c2 (tcs ((rs.map RecP.m).take k)) ∧ Below w.heap.size w wr) (fun _ iv _ => n - (intOf iv).toNat)
  case atStart => exact ⟨0, none, 0, Nat.zero_le _, rfl, rfl, FreeN.nil _ _ _ _, Below.refl _ _⟩
  case round =>
    obtain ⟨k, A2, c2, hk, rfl, rfl, hrow, hbel⟩ := hrel
    by_cases hlt : k < n
    · have hkr : k < rs.length := by have := HL.out; omega
      obtain ⟨b, off, rfl, hbl, d0, d1, hsb⟩ := HS.out.at_ hkr
      have d0' := (hbel.cell (p := ⟨b, off + k * 2, none⟩) hbl).trans d0
      have d1' := (hbel.cell (p := ⟨b, off + k * 2 + 1, none⟩) hbl).trans d1
      have hsb' : Sees wr wr.heap.size rs[k].A rs[k].n (cbs rs[k].l) := (hsb.keep (fun p hp => hbel.cell hp)).more hbel.size
      have hlt' : (k : Int) < (n : Int) := by omega
      have hk20 : (k : Int) ≤ 1048577 := by have := HN.out; omega
      have hts : (rs.map RecP.m).take (k + 1) = (rs.map RecP.m).take k ++ [(rs[k].k, rs[k].l)] := by
        rw [List.take_succ_eq_append_getElem (by rw [List.length_map]; exact hkr), List.getElem_map]
        rfl
      have HTS := Lib.hid (show tcs ((rs.map RecP.m).take (k + 1)) = tcs ((rs.map RecP.m).take k) ++ [cb rs[k].k, .string (tok rs[k].l)] by rw [hts, tcs_append]; rfl)
      clear d0 d1 hsb hts
      generalize rs[k].k = kx at *
      generalize rs[k].A = Ax at *
      generalize rs[k].n = nx at *
      generalize rs[k].c = cx at *
      generalize rs[k].l = lx at *
      obtain ⟨ls, hls⟩ : ∃ ls, tcs ((rs.map RecP.m).take k) = ls := ⟨_, rfl⟩
      rw [hls] at hrow HTS
      clear hkr hls
      unfold cb at d0'
      have hbx := (Below.refl wr.heap.size wr).alloc (Nat.le_refl _) (.cells #[.int .u8 (kx.toNat : Int), .slice Ax nx cx] 29)
      have hx := Blk.new wr 29 #[.int .u8 (kx.toNat : Int), .slice Ax nx cx]
      have e0 : (wr.alloc (.cells #[.int .u8 (kx.toNat : Int), .slice Ax nx cx] 29)).cell? ⟨wr.heap.size, 0, none⟩ = some (.int .u8 (kx.toNat : Int)) := by rw [hx.cell]; rfl
      have e1 : (wr.alloc (.cells #[.int .u8 (kx.toNat : Int), .slice Ax nx cx] 29)).cell? ⟨wr.heap.size, 1, none⟩ = some (.slice Ax nx cx) := by rw [hx.cell]; rfl
      have hcv : (convert 27 9 (.slice Ax nx cx)).run Try.prog (wr.alloc (.cells #[.int .u8 (kx.toNat : Int), .slice Ax nx cx] 29)) = .ok (.string (tok lx)) (wr.alloc (.cells #[.int .u8 (kx.toNat : Int), .slice Ax nx cx] 29)) := conv_sees' _ _ Ax nx cx lx (hsb'.past _)
      have hf1 := hrow.on hbx
      have hb1 := hbel.trans (hbx.mono hbel.size)
      clear hsb' hrow hbel hbx hx hbl
      have hxs : Sees ((wr.alloc (.cells #[.int .u8 (kx.toNat : Int), .slice Ax nx cx] 29)).alloc (.cells #[.int .u8 (kx.toNat : Int), .string (tok lx)] 46)) ((wr.alloc (.cells #[.int .u8 (kx.toNat : Int), .slice Ax nx cx] 29)).alloc (.cells #[.int .u8 (kx.toNat : Int), .string (tok lx)] 46)).heap.size (some ⟨wr.heap.size + 1, 0, none⟩) (1 * 2) [.int .u8 (kx.toNat : Int), .string (tok lx)] := by
        have h := sees_new (wr.alloc (.cells #[.int .u8 (kx.toNat : Int), .slice Ax nx cx] 29)) #[.int .u8 (kx.toNat : Int), .string (tok lx)] 46
        rw [show (wr.alloc (.cells #[.int .u8 (kx.toNat : Int), .slice Ax nx cx] 29)).heap.size = wr.heap.size + 1 from by simp] at h
        exact h
      have hbx2 := (Below.refl (wr.alloc (.cells #[.int .u8 (kx.toNat : Int), .slice Ax nx cx] 29)).heap.size (wr.alloc (.cells #[.int .u8 (kx.toNat : Int), .slice Ax nx cx] 29))).alloc (Nat.le_refl _) (.cells #[.int .u8 (kx.toNat : Int), .string (tok lx)] 46)
      have HF2 := Lib.hid (hf1.on hbx2)
      have HB2 := Lib.hid (hb1.trans (hbx2.mono hb1.size))
      have HK := Lib.hid (show k < n from hlt)
      have hm1 : k + 1 ≤ maxLen := Nat.le_trans (show k + 1 ≤ 1048578 by omega) (by decide)
      have hm2 : (k + 1) * 24 ≤ 140737488355328 := by clear hm1; omega
      have h1c : ∀ u ∈ [Value.int .u8 (kx.toNat : Int), .string (tok lx)], u.oneCell' = true := by
        intro u hu
        simp at hu
        rcases hu with rfl | rfl <;> rfl
      clear hf1 hb1 hbx2 hlt hk
      go_wp2_with (at_builtin; go_loud (
        refine wpList_append_freeN (sz := 2) _ rfl (.tmp 12) (.tmp 19) _ rfl w.heap.size 46 i0 _ 24 srrec_u hi0 hz0 hz1 hz2 rfl (by decide) A2 k c2 ls rfl HF2.out _ _ 1 1 [.int .u8 (kx.toNat : Int), .string (tok lx)] rfl hxs h1c hm1 hm2 HB2.out.size ?_
        intro A5 c5 w5 ha
        have HR5 := Lib.hid ha.1
        have HB5 := Lib.hid (ha.below HF2.out HB2.out HB2.out.size (Nat.le_refl _))
        clear ha hxs hm1 hm2 h1c))
      go_roundw
      case rel => exact ⟨k + 1, A5, c5, HK.out, rfl, by go_num, by rw [HTS.out]; exact HR5.out, HB5.out⟩
      case measure => have := HK.out; simp [intOf]; omega
    · have hlt' : ¬ (k : Int) < (n : Int) := by omega
      have hkn : k = n := by omega
      subst hkn
      rw [List.take_of_length_le (by rw [List.length_map]; have := HL.out; omega)] at hrow
      have HR := Lib.hid hrow
      have HB := Lib.hid hbel
      clear hrow hbel hk hlt
      go_wp2_with fail
      go_ret
      refine ⟨A2, c2, ?_, ?_, HB.out⟩
      · rw [List.length_map, HL.out]; rfl
      · rw [List.length_map, HL.out]; exact HR.out
end Go.Proofs.Ytmhgbpgbnfdokaa
