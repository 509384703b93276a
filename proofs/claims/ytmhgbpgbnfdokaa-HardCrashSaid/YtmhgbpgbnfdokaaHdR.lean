/- The walk of the document's own Records (kissinggateref06). -/
import Derived.Test.YtmhgbpgbnfdokaaHdA
import Derived.Conc.MuLone
namespace Go.Proofs.Ytmhgbpgbnfdokaa
open Go.RowKit

theorem refInt_tok (m : Int) (w : World) :
    Calls Try.prog 47 #[.int .i64 m] w fun e w' => e = .returned (.string (tok (intB m))) ∧ Below w.heap.size w w' := refInt_any m w
theorem refText_tok (s : ByteArray) (w : World) :
    Calls Try.prog 48 #[.string s] w fun e w' => e = .returned (.string (tok (textBytes s))) ∧ Below w.heap.size w w' := refText_any s w

/-- a call of a Go function, at a step of a region that draws (for go_region_law) -/
theorem step_calls {P : Program} {ops : Array Oper} {o : Oper} {a : Act} {w : World} {K : Act → World → Prop} {Q : Exit → Act → World → Prop} {E : Prop}
    (hg : o.guard = none) (f : FuncId) (x : Operand) (t : TypeId) (ho : o.op = Op.call { callee := Callee.value (Operand.func f), args := #[x], argTypes := #[t] })
    {fn : Func} (hf : P.funcs[f]? = some fn) (hname : (fn.name == "runtime.NumGoroutine") = false) {c : Code} (hb : fn.body = some c)
    (v : Value) (hx : a.eval x = v) (R : Ending → World → Prop) (hc : Calls P f #[v] w R)
    (h : ∀ e w', R e w' → ∃ u, e = .returned u ∧ K (a.put o.dst u) w') :
    if Region.wanted o (yielded ops a.tmps) = true then Oper.wp P o a w K Q else E := by
  have hw : Region.wanted o (yielded ops a.tmps) = true := by simp [Region.wanted, hg]
  rw [if_pos hw]
  have hrun : (execOp a.eval o).run P w = .ok (.enter f #[v]) w := by
    unfold execOp
    simp only [ho, resolve, invoke, Sem.run_bind, List.map_toArray, List.map_cons, List.map_nil, hx]
    rw [show a.eval (Operand.func f) = .func (.func f) #[] #[] from rfl]
    simp only [Deferred.ofValue, Sem.run_pure, Result.andThen_ok]
    simpa using Go.MuLone.run_callFunc_enter hf hname hb #[v] w
  unfold Oper.wp
  rw [hrun, Oper.upon_enter]
  refine hc.mono ?_
  intro e w' hR
  obtain ⟨u, rfl, hk⟩ := h e w' hR
  exact hk
set_option maxRecDepth 100000 in
set_option maxHeartbeats 800000 in
/-- kissinggateref06.Records -/
theorem refRecords_any (s : SvP) (A : Option Addr) (n c : Nat) (w : World) (hs : Ents w w.heap.size A s.es) (hl : s.es.length = n) (hn : n ≤ 1048576) :
    Calls Try.prog 19 #[.agg #[.bool s.hard, .int .i64 s.t, .int .i64 s.v, .int .i64 s.f, .slice A n c]] w (PlainRet w (recordsF s)) := by
  obtain ⟨hd, t, v, f, es⟩ := s
  simp only at hs hl ⊢
  obtain ⟨i0, hi0, hz0, hz1, hz2⟩ := info_parts rrec_row
  have hA := Blk.new w 41 #[.bool hd, .int .i64 t, .int .i64 v, .int .i64 f, .slice A n c]
  have hb0 := (Below.refl w.heap.size w).alloc (Nat.le_refl _) (.cells #[.bool hd, .int .i64 t, .int .i64 v, .int .i64 f, .slice A n c] 41)
  have hs0 : Ents (w.alloc (.cells #[.bool hd, .int .i64 t, .int .i64 v, .int .i64 f, .slice A n c] 41)) (w.alloc (.cells #[.bool hd, .int .i64 t, .int .i64 v, .int .i64 f, .slice A n c] 41)).heap.size A es := Sees.on hs hb0
  have HC := Lib.hid (fun (W : World) (hW : Below (w.alloc (.cells #[.bool hd, .int .i64 t, .int .i64 v, .int .i64 f, .slice A n c] 41)).heap.size (w.alloc (.cells #[.bool hd, .int .i64 t, .int .i64 v, .int .i64 f, .slice A n c] 41)) W) =>
    have hk := hA.below hW hA.lt
    (⟨by rw [hk.cell]; rfl, by rw [hk.cell]; rfl, by rw [hk.cell]; rfl, by rw [hk.cell]; rfl, by rw [hk.cell]; rfl⟩ : W.cell? ⟨w.heap.size, 0, none⟩ = some (.bool hd) ∧ W.cell? ⟨w.heap.size, 1, none⟩ = some (.int .i64 t) ∧ W.cell? ⟨w.heap.size, 2, none⟩ = some (.int .i64 v) ∧ W.cell? ⟨w.heap.size, 3, none⟩ = some (.int .i64 f) ∧ W.cell? ⟨w.heap.size, 4, none⟩ = some (.slice A n c)))
  obtain ⟨c0, c1, c2, c3, c4⟩ := HC.out _ (Below.refl _ _)
  clear hA hs
  go_enter Try.func19, Try.ntmps19
  go_upto_if 7 with (fail)
  generalize w.alloc (.cells #[.bool hd, .int .i64 t, .int .i64 v, .int .i64 f, .slice A n c] 41) = w0 at *
  have HB0 := Lib.hid hb0
  have HS0 := Lib.hid hs0
  have HL := Lib.hid hl
  have HN := Lib.hid hn
  clear hb0 hs0 hl hn
  have HIT := Lib.hid (fun m W => refInt_tok m W)
  have z8 := fun m => (show (tok (intB m)).size = 8 by rw [tok_size]; simp [intB])
  go_cut [3] (fun rv wx => ∃ A' c', rv = .slice A' (if hd then [hardR t v] else []).length c' ∧ FreeN 2 wx w0.heap.size 46 A' (if hd then [hardR t v] else []).length c' (tcs (if hd then [hardR t v] else [])) ∧ Below w0.heap.size w0 wx)
  case first =>
    cases hd with
    | false =>
      go_wp2_with fail
      go_meet
      exact ⟨none, 0, rfl, FreeN.nil _ _ _ _, Below.refl _ _⟩
    | true =>
      have q1 := HIT.out t
      have q2 := HIT.out v
      have za := z8 t
      have zb := z8 v
      have hsum : ¬ (9223372036854775807 : Nat) < (tok (intB t)).size + (tok (intB v)).size := by omega
      have HTA := Lib.hid (tok_app (intB t) (intB v))
      have HBB : Hid (Below w0.heap.size w0 w0.drew) := Lib.hid (Below.refl w0.heap.size w0).drew
      have hm1 : 0 + 1 ≤ maxLen := by decide
      clear z8
      generalize tok (intB t) = ta at *
      generalize tok (intB v) = tb at *
      go_wp2_with fail
      go_region_law (first
        | (refine step_calls rfl 47 (.tmp 10) 3 rfl Try.func47 (by kernel_rfl) rfl (.int .i64 t) (by rfl) _ (q1 _) ?_
           rintro e wx ⟨rfl, hbx⟩
           refine ⟨_, rfl, ?_⟩
           have hby := bthen HBB.out hbx
           have HBB := Lib.hid hby
           obtain ⟨c0, c1, c2, c3, c4⟩ := HC.out _ hby
           clear hby hbx)
        | (refine step_calls rfl 47 (.tmp 13) 3 rfl Try.func47 (by kernel_rfl) rfl (.int .i64 v) (by rfl) _ (q2 _) ?_
           rintro e wx ⟨rfl, hbx⟩
           refine ⟨_, rfl, ?_⟩
           have hby := bthen HBB.out hbx
           have HBB := Lib.hid hby
           obtain ⟨c0, c1, c2, c3, c4⟩ := HC.out _ hby
           clear hby hbx)
        | (refine step_append_freeN (sz := 2) rfl (.tmp 8) (.tmp 17) 35 rfl w0.heap.size 46 i0 _ 24 srrec_u hi0 hz0 hz1 hz2 rfl (by decide) none 0 0 [] (by rfl) (by exact FreeN.nil _ _ _ _) _ (some ⟨wx.heap.size, 0, none⟩) 1 1 [.int .u8 1, .string (ta ++ tb)] (by rfl) (by exact sees_new wx #[.int .u8 1, .string (ta ++ tb)] 46) (by intro u hu; simp at hu; rcases hu with rfl | rfl <;> rfl) hm1 (by decide) (by exact (HBB.out.alloc HBB.out.size _).size) ?_
           intro A2 c2' w3 ha
           have HR2 := Lib.hid ha.1
           have HB2 := Lib.hid (show Below w0.heap.size w0 w3 from ha.below (FreeN.nil _ _ _ _) (HBB.out.alloc HBB.out.size _) (HBB.out.alloc HBB.out.size _).size (Nat.le_refl _))
           clear ha))
      all_goals
        go_wp2_with fail
        go_meet
        refine ⟨A2, c2', rfl, ?_, HB2.out⟩
        have h := HR2.out
        rw [HTA.out] at h
        exact h
  case rest =>
    obtain ⟨A', c', rfl, hf, hbc⟩ := hcut
    obtain ⟨pre, hpre⟩ : ∃ pre, (if hd then [hardR t v] else []) = pre := ⟨_, rfl⟩
    have hp1 : pre.length ≤ 1 := by rw [← hpre]; split <;> simp
    rw [hpre] at hf ⊢
    have HPRE := Lib.hid hpre
    have HP1 := Lib.hid hp1
    clear hpre hp1 c0 c1 c2 c3 c4 z8
    obtain ⟨c0, c1, c2, c3, c4⟩ := HC.out _ hbc
    go_wp2_with fail
    go_loopw [3, 22] (fun rv iv wr => ∃ (k : Nat) (A2 : Option Addr) (c2 : Nat), k ≤ n ∧ rv = .slice A2 (pre.length + k) c2 ∧ iv = .int .i64 (k : Int) ∧ FreeN 2 wr w0.heap.size 46 A2 (pre.length + k) c2 (tcs (pre ++ entsK f es k)) ∧ Below w0.heap.size w0 wr) (fun _ iv _ => n - (intOf iv).toNat)
    case atStart => exact ⟨0, A', c', Nat.zero_le _, rfl, rfl, by simpa [entsK] using hf, hbc⟩
    case round =>
      obtain ⟨k, A2, c2', hk, rfl, rfl, hrow, hbel⟩ := hrel
      clear c0 c1 c2 c3 c4 hf hbc
      by_cases hlt : k < n
      · have hkl : k < es.length := by have := HL.out; omega
        obtain ⟨b, off, rfl, hbl, d0, d1⟩ := Ents.at_ HS0.out hkl
        have d0' := (hbel.cell (p := ⟨b, off + k * 2, none⟩) hbl).trans d0
        have d1' := (hbel.cell (p := ⟨b, off + k * 2 + 1, none⟩) hbl).trans d1
        have hlt' : (k : Int) < (n : Int) := by omega
        have hks := entsK_succ f es k hkl
        have hk20 : (k : Int) ≤ 1048576 := by have := HN.out; omega
        have HKS := Lib.hid hks
        have HROW := Lib.hid hrow
        have HBEL := Lib.hid hbel
        clear d0 d1 hks hrow hbl
        generalize es[k] = x at *
        have hbe := (Below.refl wr.heap.size wr).alloc (Nat.le_refl _) (.cells #[.int .i64 x.t, .string x.s] 73)
        have hxe := Blk.new wr 73 #[.int .i64 x.t, .string x.s]
        clear hbel
        go_wp2_with fail
        have HB1 := Lib.hid (HBEL.out.trans (hbe.mono HBEL.out.size))
        have HROW1 := Lib.hid (HROW.out.on hbe)
        generalize wr.alloc (.cells #[.int .i64 x.t, .string x.s] 73) = w1 at *
        have HXE := Lib.hid (fun (W : World) (hW : Below w1.heap.size w1 W) =>
          have hk := hxe.below hW hxe.lt
          (⟨by rw [hk.cell]; rfl, by rw [hk.cell]; rfl⟩ : W.cell? ⟨wr.heap.size, 0, none⟩ = some (.int .i64 x.t) ∧ W.cell? ⟨wr.heap.size, 1, none⟩ = some (.string x.s)))
        obtain ⟨c0, c1, c2, c3, c4⟩ := HC.out _ HB1.out
        obtain ⟨e0, e1⟩ := HXE.out _ (Below.refl _ _)
        have hwq : IntKind.i64.wrap (f + (k : Int)) = wrap64 (f + (k : Int)) := by rw [IntKind.wrap_i64]; unfold wrap64; omega
        have q1 : ∀ W, Calls Try.prog 47 #[.int .i64 (IntKind.i64.wrap (f + (k : Int)))] W fun e w' => e = .returned (.string (tok (intB (wrap64 (f + (k : Int)))))) ∧ Below W.heap.size W w' := fun W => by rw [hwq]; exact HIT.out _ W
        clear hwq
        have q2 := HIT.out x.t
        have q3 := fun W => refText_tok x.s W
        have za : (tok (intB (wrap64 (f + (k : Int))))).size = 8 := by rw [tok_size]; simp [intB]
        have zb : (tok (intB x.t)).size = 8 := by rw [tok_size]; simp [intB]
        have zc : (tok (textBytes x.s)).size ≤ 65537 := by rw [tok_size]; simp [textBytes]; omega
        have HTA := Lib.hid (show tok (intB (wrap64 (f + (k : Int)))) ++ tok (intB x.t) ++ tok (textBytes x.s) = tok (intB (wrap64 (f + (k : Int))) ++ intB x.t ++ textBytes x.s) by rw [tok_app, tok_app])
        have zab : (tok (intB (wrap64 (f + (k : Int)))) ++ tok (intB x.t)).size = 16 := by rw [tok_app, tok_size]; simp [intB]
        have HBB : Hid (Below w1.heap.size w1 w1.drew) := Lib.hid (Below.refl w1.heap.size w1).drew
        have hm1 : pre.length + k + 1 ≤ maxLen := Nat.le_trans (show pre.length + k + 1 ≤ 1048578 by have := HP1.out; omega) (by decide)
        have hm2 : (pre.length + k + 1) * 24 ≤ 140737488355328 := by have := HP1.out; clear hm1; omega
        generalize tok (intB (wrap64 (f + (k : Int)))) = ta at *
        generalize tok (intB x.t) = tb at *
        generalize tok (textBytes x.s) = tc at *
        have hsum : ¬ (9223372036854775807 : Nat) < ta.size + tb.size := by omega
        have hsum2 : ¬ (9223372036854775807 : Nat) < (ta ++ tb).size + tc.size := by omega
        have hsum3 : ¬ (9223372036854775807 : Nat) < ta.size + tb.size + tc.size := by omega
        have HK := Lib.hid (show k < n from hlt)
        have h1c : ∀ u ∈ [Value.int .u8 2, .string (ta ++ tb ++ tc)], u.oneCell' = true := by intro u hu; simp at hu; rcases hu with rfl | rfl <;> rfl
        clear hlt hk hkl hxe hbe za zb zc zab d0' d1' hk20
        go_region_law (first
          | (refine step_calls rfl 47 (.tmp 31) 3 rfl Try.func47 (by kernel_rfl) rfl (.int .i64 (IntKind.i64.wrap (f + (k : Int)))) (by rfl) _ (q1 _) ?_
             rintro e wx ⟨rfl, hbx⟩
             refine ⟨_, rfl, ?_⟩
             have hby := bthen HBB.out hbx
             have HBB := Lib.hid hby
             obtain ⟨c0, c1, c2, c3, c4⟩ := HC.out _ (HB1.out.trans (hby.mono HB1.out.size))
             obtain ⟨e0, e1⟩ := HXE.out _ hby
             clear hby hbx)
          | (refine step_calls rfl 47 (.tmp 34) 3 rfl Try.func47 (by kernel_rfl) rfl (.int .i64 x.t) (by rfl) _ (q2 _) ?_
             rintro e wx ⟨rfl, hbx⟩
             refine ⟨_, rfl, ?_⟩
             have hby := bthen HBB.out hbx
             have HBB := Lib.hid hby
             obtain ⟨c0, c1, c2, c3, c4⟩ := HC.out _ (HB1.out.trans (hby.mono HB1.out.size))
             obtain ⟨e0, e1⟩ := HXE.out _ hby
             clear hby hbx)
          | (refine step_calls rfl 48 (.tmp 38) 9 rfl Try.func48 (by kernel_rfl) rfl (.string x.s) (by rfl) _ (q3 _) ?_
             rintro e wx ⟨rfl, hbx⟩
             refine ⟨_, rfl, ?_⟩
             have hby := bthen HBB.out hbx
             have HBB := Lib.hid hby
             obtain ⟨c0, c1, c2, c3, c4⟩ := HC.out _ (HB1.out.trans (hby.mono HB1.out.size))
             obtain ⟨e0, e1⟩ := HXE.out _ hby
             clear hby hbx)
          | (refine step_append_freeN (sz := 2) rfl (.tmp 27) (.tmp 42) 35 rfl w0.heap.size 46 i0 _ 24 srrec_u hi0 hz0 hz1 hz2 rfl (by decide) A2 (pre.length + k) c2' (tcs (pre ++ entsK f es k)) (by rfl) (by exact HROW1.out.on (HBB.out.alloc HBB.out.size _)) _ (some ⟨wx.heap.size, 0, none⟩) 1 1 [.int .u8 2, .string (ta ++ tb ++ tc)] (by rfl) (by exact sees_new wx #[.int .u8 2, .string (ta ++ tb ++ tc)] 46) (by exact h1c) (by exact hm1) (by exact hm2) (by exact (HB1.out.trans ((HBB.out.alloc HBB.out.size _).mono HB1.out.size)).size) ?_
             intro A5 c5 w5 ha
             have HR5 := Lib.hid ha.1
             have HB5 := Lib.hid (show Below w0.heap.size w0 w5 from ha.below (HROW1.out.on (HBB.out.alloc HBB.out.size _)) (HB1.out.trans ((HBB.out.alloc HBB.out.size _).mono HB1.out.size)) (HB1.out.trans ((HBB.out.alloc HBB.out.size _).mono HB1.out.size)).size (Nat.le_refl _))
             clear ha))
        all_goals
          go_wp2_with fail
          go_roundw
          case rel =>
            refine ⟨k + 1, A5, c5, HK.out, by rfl, by go_num, ?_, HB5.out⟩
            have h := HR5.out
            rw [HTA.out] at h
            rw [HKS.out, ← List.append_assoc, tcs_append]
            exact h
          case measure => have := HK.out; simp [intOf]; omega
      · have hlt' : ¬ (k : Int) < (n : Int) := by omega
        have hkn : k = n := by omega
        subst hkn
        have HR := Lib.hid (hrow.mono HB0.out.size)
        have HB := Lib.hid (HB0.out.trans (hbel.mono HB0.out.size))
        have hrl : (recordsF ⟨hd, t, v, f, es⟩) = pre ++ entsK f es k := by
          unfold recordsF
          simp only [HL.out]
          rw [HPRE.out]
        have hrn : (pre ++ entsK f es k).length = pre.length + k := by rw [List.length_append, entsK_length]
        have HRL := Lib.hid hrl
        have HRN := Lib.hid hrn
        clear hrow hbel hk hlt hrl hrn
        go_wp2_with fail
        go_ret
        rw [HRL.out]
        refine ⟨A2, c2', ?_, ?_, HB.out⟩
        · rw [HRN.out]; rfl
        · rw [HRN.out]; exact HR.out
end Go.Proofs.Ytmhgbpgbnfdokaa
