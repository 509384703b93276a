/- The walks of package log: Put, and what it asks. -/
import Derived.Test.YtcmeindekbjefaaLog2
namespace Go.Proofs.Ytcmeindekbjefaa
open Go.RowKit

set_option maxRecDepth 100000 in
set_option maxHeartbeats 800000 in
/-- (*log.Log).fits -/
theorem lFits_any (base g : Nat) (f : Option Nat) (es : List Ent) (i t : Int) (A : Option Addr) (n c : Nat) (l : List Ent) (w : World) (h : LogAt w base g f es) (hn : es.length ≤ 1048576) (hs : Ents w w.heap.size A l) (hl : l.length = n) (hln : n ≤ 1048576) :
    Calls Try.prog 46 #[.pointer (some ⟨g, 0, none⟩), .int .i64 i, .int .i64 t, .slice A n c] w fun e w' => e = .returned (.int .i64 (fitsF es i t l : Int)) ∧ Below w.heap.size w w' := by
  have HT := Lib.hid (lTerm_any base g f es i w h (by omega))
  clear h
  unfold fitsF
  by_cases h1 : (termF es i).2 = false
  · rw [if_pos h1]
    have HT' := HT.out
    rw [h1] at HT'
    have HT := Lib.hid HT'
    clear HT' h1 hs
    generalize (termF es i).1 = q at *
    go_enter Try.func46, Try.ntmps46
    go_wp2_with fail
    refine HT.out.mono ?_
    rintro e w1 ⟨rfl, rfl⟩
    go_wp2_with fail
    go_ret
    exact ⟨rfl, Below.refl _ _⟩
  · rw [if_neg h1]
    have HT' := HT.out
    rw [Bool.not_eq_false] at h1
    rw [h1] at HT'
    have HT := Lib.hid HT'
    clear HT' h1
    generalize (termF es i).1 = q at *
    by_cases h2 : q = t
    · subst h2
      rw [if_neg (by simp)]
      generalize hR : (if fallF q l = true then 5 else 0) = R
      have HR := Lib.hid hR
      clear hR
      go_enter Try.func46, Try.ntmps46
      go_wp2_with fail
      refine HT.out.mono ?_
      rintro e w1 ⟨rfl, rfl⟩
      go_wp2_with fail
      go_loopw [2, 28] (fun v i wr => ∃ k : Nat, k ≤ n ∧ v = .int .i64 (upT q l k) ∧ i = .int .i64 (k : Int) ∧ (∀ (j : Nat) (hj : j < l.length), j < k → upT q l j ≤ l[j].t) ∧ Below w1.heap.size w1 wr) (fun _ i _ => n - (intOf i).toNat)
      case atStart => exact ⟨0, Nat.zero_le _, by rw [upT_zero], rfl, (fun j _ h => absurd h (by omega)), Below.refl _ _⟩
      case round =>
        obtain ⟨k, hk, rfl, rfl, hup, hbel⟩ := hrel
        by_cases hlt : k < n
        · have hkl : k < l.length := by omega
          obtain ⟨b, off, rfl, hbl, d0, d1⟩ := hs.at_ hkl
          have d0' := (hbel.cell (p := ⟨b, off + k * 2, none⟩) hbl).trans d0
          have d1' := (hbel.cell (p := ⟨b, off + k * 2 + 1, none⟩) hbl).trans d1
          have hlt' : (k : Int) < (n : Int) := by omega
          have hnx := upT_succ q l k hkl
          have HUP := Lib.hid hup
          by_cases hf : l[k].t < upT q l k
          · have HF := Lib.hid (fallF_at q l k hkl hf)
            clear d0 d1 hup hnx
            generalize l[k] = x at *
            generalize upT q l k = u at *
            go_wp2_with fail
            go_ret
            have hR := HR.out
            rw [if_pos HF.out] at hR
            subst hR
            exact ⟨rfl, (hbel.alloc hbel.size _)⟩
          · have HNF := Lib.hid (show upT q l k ≤ l[k].t by omega)
            clear d0 d1 hup
            generalize hx : l[k] = x at *
            generalize hu : upT q l k = u at *
            have HX := Lib.hid hx
            have HU := Lib.hid hu
            clear hx hu
            go_wp2_with fail
            go_roundw
            case rel =>
              refine ⟨k + 1, by omega, by rw [hnx], by go_num, fun j hj hjk => ?_, hbel.alloc hbel.size _⟩
              by_cases e : j = k
              · subst e
                have h1 := HX.out
                have h2 := HU.out
                rw [h1, h2]
                exact HNF.out
              · exact HUP.out j hj (by omega)
            case measure => simp [intOf]; omega
        · have hlt' : ¬ (k : Int) < (n : Int) := by omega
          have hff : fallF q l = false := fallF_none q l (fun j hj => hup j hj (by omega))
          have HFF := Lib.hid hff
          clear hup hff
          generalize upT q l k = u at *
          go_wp2_with fail
          go_ret
          have hR := HR.out
          rw [if_neg (by rw [HFF.out]; simp)] at hR
          subst hR
          exact ⟨rfl, hbel⟩
    · have h2' : (q != t) = true := by simpa using h2
      rw [if_pos h2]
      clear hs
      go_enter Try.func46, Try.ntmps46
      go_wp2_with fail
      refine HT.out.mono ?_
      rintro e w1 ⟨rfl, rfl⟩
      go_wp2_with fail
      go_ret
      exact ⟨rfl, Below.refl _ _⟩
set_option maxRecDepth 100000 in
theorem lFits_nil (i t : Int) (v : Value) (w : World) :
    Calls Try.prog 46 #[.pointer none, .int .i64 i, .int .i64 t, v] w fun e w' => e = .returned (.int .i64 1) ∧ w' = w := by
  go_enter Try.func46, Try.ntmps46
  go_wp2_with fail
  go_ret
  exact ⟨rfl, rfl⟩

set_option maxRecDepth 100000 in
set_option maxHeartbeats 800000 in
/-- (*log.Log).there -/
theorem lThere_any (base g : Nat) (f : Option Nat) (es : List Ent) (i : Int) (A : Option Addr) (n c : Nat) (l : List Ent) (w : World) (h : LogAt w base g f es) (hn : es.length ≤ 1048576) (hs : Ents w w.heap.size A l) (hl : l.length = n) (hln : n ≤ 1048576) (hi0 : 0 ≤ i) (hi : i ≤ 1048576) :
    Calls Try.prog 47 #[.pointer (some ⟨g, 0, none⟩), .int .i64 i, .slice A n c] w fun e w' => e = .returned (.int .i64 (thereF es i l : Int)) ∧ Below w.heap.size w w' := by
  have H := Lib.hid h
  clear h
  go_enter Try.func47, Try.ntmps47
  go_wp2_with fail
  go_loopw [13] (fun v wr => ∃ k : Nat, k ≤ n ∧ v = .int .i64 (k : Int) ∧ (∀ (j : Nat) (hj : j < l.length), j < k → termF es (i + 1 + j) = (l[j].t, true)) ∧ Below w.heap.size w wr) (fun v _ => n - (intOf v).toNat)
  case atStart => exact ⟨0, Nat.zero_le _, rfl, (fun j _ h => absurd h (by omega)), Below.refl _ _⟩
  case round =>
    obtain ⟨k, hk, rfl, hup, hbel⟩ := hrel
    by_cases hlt : k < n
    · have hkl : k < l.length := by omega
      obtain ⟨b, off, rfl, hbl, d0, d1⟩ := hs.at_ hkl
      have d0' := (hbel.cell (p := ⟨b, off + k * 2, none⟩) hbl).trans d0
      have d1' := (hbel.cell (p := ⟨b, off + k * 2 + 1, none⟩) hbl).trans d1
      have hlt' : (k : Int) < (n : Int) := by omega
      have HUP := Lib.hid hup
      have hw1 : IntKind.i64.wrap (i + 1) = i + 1 := by rw [IntKind.wrap_i64]; omega
      have hw2 : IntKind.i64.wrap (i + 1 + (k : Int)) = i + 1 + (k : Int) := by rw [IntKind.wrap_i64]; omega
      have hw3 : wrap64 (i + 1) = i + 1 := by unfold wrap64; omega
      have hw4 : wrap64 (i + 1 + (k : Int)) = i + 1 + (k : Int) := by unfold wrap64; omega
      have HX : ∃ x, l[k] = x := ⟨_, rfl⟩
      obtain ⟨x, hx⟩ := HX
      rw [hx] at d0' d1'
      have HXX := Lib.hid hx
      have hA0 := Blk.new wr 62 #[.int .i64 x.t, .string x.s]
      have e0 : (wr.alloc (.cells #[.int .i64 x.t, .string x.s] 62)).cell? ⟨wr.heap.size, 0, none⟩ = some (.int .i64 x.t) := by rw [hA0.cell]; rfl
      have hb2 := hbel.alloc hbel.size (.cells #[.int .i64 x.t, .string x.s] 62)
      clear d0 d1 hup hx hA0
      go_wp2_with fail
      refine (lTerm_any base g f es _ _ (H.out.on hb2) (by omega)).mono ?_
      rintro e w3 ⟨rfl, rfl⟩
      have hbz : ∀ T : Int, termF es (i + 1 + (k : Int)) ≠ (x.t, true) → thereF es i l = k := fun _ h => thereF_eq es i l k (by omega) HUP.out (fun hk => by rw [HXX.out]; exact h)
      have hmore : termF es (i + 1 + (k : Int)) = (x.t, true) → ∀ (j : Nat) (hj : j < l.length), j < k + 1 → termF es (i + 1 + j) = (l[j].t, true) := fun h j hj hjk => by
        by_cases e : j = k
        · subst e
          rw [HXX.out]
          exact h
        · exact HUP.out j hj (by omega)
      generalize hTB : termF es (i + 1 + (k : Int)) = TB at *
      obtain ⟨T, b1⟩ := TB
      have HZ := Lib.hid hbz
      have HM := Lib.hid hmore
      clear hbz hmore hTB d0' d1' HUP
      cases b1 with
      | false =>
        have hth := HZ.out 0 (by simp)
        have HTH := Lib.hid hth
        clear hth
        go_wp2_with fail
        go_ret
        rw [HTH.out]
        exact ⟨rfl, hb2⟩
      | true =>
        by_cases hTx : T = x.t
        · subst hTx
          go_wp2_with fail
          go_roundw
          case rel => exact ⟨k + 1, by omega, by go_num, HM.out (by simp), hb2⟩
          case measure => simp [intOf]; omega
        · have hth := HZ.out 0 (by simpa using hTx)
          have hne : (T != x.t) = true := by simpa using hTx
          have HTH := Lib.hid hth
          clear hth
          go_wp2_with fail
          go_ret
          rw [HTH.out]
          exact ⟨rfl, hb2⟩
    · have hlt' : ¬ (k : Int) < (n : Int) := by omega
      have hkn : k = n := by omega
      have hth := thereF_eq es i l k (by omega) hup (fun h => absurd h (by omega))
      have HTH := Lib.hid hth
      clear hup hth
      go_wp2_with fail
      go_ret
      rw [HTH.out, hkn]
      exact ⟨rfl, hbel⟩

theorem LogMoves.cut_then {w2 w3 w4 : World} {base g : Nat} {f f1 : Option Nat} {es : List Ent} (hmv : Moved g none w2 w3) (hf1 : f1 = f ∨ f1 = none) (h : LogMoves w3 base g f1 es w4) : LogMoves w2 base g f es w4 := by
  obtain ⟨f', h1, h2, h3⟩ := h
  refine ⟨f', h1, ⟨h2.os.trans hmv.os, h2.tape.trans hmv.tape, h2.output.trans hmv.output, Nat.le_trans hmv.size h2.size, fun k hk hg hf => (h2.block k (Nat.lt_of_lt_of_le hk hmv.size) hg (fun e => ?_)).trans (hmv.block k hk hg (by simp))⟩, ?_⟩
  · rcases hf1 with rfl | rfl
    · exact hf e
    · cases e
  · rcases h3 with rfl | rfl | ⟨q, rfl, hq⟩
    · exact hf1.imp id .inl
    · exact .inr (.inl rfl)
    · exact .inr (.inr ⟨q, rfl, Nat.le_trans hmv.size hq⟩)
theorem Moved.to_moves {w w' : World} {base g : Nat} {f : Option Nat} {es : List Ent} (h : LogAt w base g f es) (hb : Below w.heap.size w w') : LogMoves w base g f es w' :=
  ⟨f, h.on hb, (Moved.refl g f w).on hb, .inl rfl⟩

set_option maxRecDepth 100000 in
set_option maxHeartbeats 1600000 in
/-- (*log.Log).Put -/
theorem lPut_any (base g : Nat) (f : Option Nat) (es : List Ent) (i t : Int) (A : Option Addr) (n c : Nat) (l : List Ent) (w : World) (h : LogAt w base g f es) (hn : es.length ≤ 1048576) (hs : Ents w w.heap.size A l) (hl : l.length = n) (hc : n ≤ c) (hln : n ≤ 1048576) (hne : 0 < n → ∀ a, A = some a → a.block ≠ g) (hB : base ≤ w.heap.size) :
    Calls Try.prog 29 #[.pointer (some ⟨g, 0, none⟩), .int .i64 i, .int .i64 t, .slice A n c] w fun e w' => e = .returned (.tuple #[.int .i64 (putF es i t l).2.1, .int .i64 ((putF es i t l).2.2 : Int)]) ∧ LogMoves w base g f (putF es i t l).1 w' := by
  have HF := Lib.hid (lFits_any base g f es i t A n c l w h hn hs hl hln)
  have H := Lib.hid h
  have HS := Lib.hid hs
  unfold putF
  by_cases h1 : fitsF es i t l ≠ 0
  · rw [if_pos h1]
    have h1' : ((fitsF es i t l : Int) != 0) = true := by simp; omega
    have HL := Lib.hid hl
    clear h hs h1 hl hc hne
    generalize fitsF es i t l = q at *
    simp only
    go_enter Try.func29, Try.ntmps29
    go_wp2_with fail
    refine HF.out.mono ?_
    rintro e w1 ⟨rfl, hb1⟩
    go_wp2_with fail
    go_ret2
    exact ⟨rfl, Moved.to_moves H.out hb1⟩
  · have h0 : fitsF es i t l = 0 := by omega
    rw [if_neg h1]
    have hti : (termF es i).2 = true := by
      unfold fitsF at h0
      split at h0
      · cases h0
      · rename_i hh
        simpa using hh
    obtain ⟨hi0, hi1⟩ := termF_true hti
    obtain ⟨m, rfl⟩ : ∃ m : Nat, i = m := ⟨i.toNat, by omega⟩
    rw [h0] at HF
    have hF' := HF.out
    have HF := Lib.hid hF'
    have hHT := fun W hW => lThere_any base g f es m A n c l W (h.on hW) hn (Sees.on hs hW) hl hln (by omega) (by omega)
    have hthl := thereF_le es m l
    have hthb := thereF_bound es m l (by omega)
    clear hF' h1 h0 hti hi0
    generalize thereF es m l = th at *
    have HT := Lib.hid hHT
    clear hHT
    by_cases h2 : th = l.length
    · rw [if_pos h2]
      have h2' : ((th : Int) == (n : Int)) = true := by simp; omega
      have HTH := Lib.hid h2
      clear h hs hne hc hthl hthb h2 hl
      simp only
      go_enter Try.func29, Try.ntmps29
      go_wp2_with fail
      refine HF.out.mono ?_
      rintro e w1 ⟨rfl, hb1⟩
      go_wp2_with fail
      refine (HT.out w1 hb1).mono ?_
      rintro e w2 ⟨rfl, hb2⟩
      go_wp2_with fail
      go_ret2
      exact ⟨rfl, Moved.to_moves H.out (bthen hb1 hb2)⟩
    · rw [if_neg h2]
      have h2' : ((th : Int) == (n : Int)) = false := by simp; omega
      by_cases h3 : 1024 < (m : Int) + (l.length : Int)
      · rw [if_pos h3]
        have h3' : (1024 : Int) < (m : Int) + (n : Int) := by omega
        have hw1 : IntKind.i64.wrap ((m : Int) + (n : Int)) = (m : Int) + (n : Int) := wr_i64 (by omega) (by omega)
        have hw1' : wrap64 ((m : Int) + (n : Int)) = (m : Int) + (n : Int) := wr_64 (by omega) (by omega)
        have HL := Lib.hid hl
        clear h hs hne hc hthl hthb h2 hl h3
        simp only
        go_enter Try.func29, Try.ntmps29
        go_wp2_with fail
        refine HF.out.mono ?_
        rintro e w1 ⟨rfl, hb1⟩
        go_wp2_with fail
        refine (HT.out w1 hb1).mono ?_
        rintro e w2 ⟨rfl, hb2⟩
        go_wp2_with fail
        go_ret2
        exact ⟨rfl, Moved.to_moves H.out (bthen hb1 hb2)⟩
      · rw [if_neg h3]
        have h3' : ¬ (1024 : Int) < (m : Int) + (n : Int) := by omega
        have hthn : th < n := by omega
        have hkk : ((m : Int) + (th : Int)).toNat = m + th := by omega
        rw [hkk]
        have hcast : (m : Int) + (th : Int) = ((m + th : Nat) : Int) := by omega
        have hel : m + th ≤ es.length := by omega
        have hsl := fun W => ents_from A n c th (th : Int) rfl (by omega) W
        have hthm : th ≤ 1048576 := by omega
        have hmm : m ≤ 1048576 := by omega
        have htl : (es.take (m + th)).length = m + th := by rw [List.length_take]; omega
        have hdl : (l.drop th).length = n - th := by rw [List.length_drop, hl]
        have HSD := Lib.hid (fun (W : World) (hW : Ents W W.heap.size A l) => Ents.drop (c := c) (k := th) hW hl (by omega) hc)
        generalize (if c = th then A else A.map (·.add (th * 2))) = A4 at *
        have HTL := Lib.hid htl
        have HDL := Lib.hid hdl
        have HEL := Lib.hid hel
        have HNE := Lib.hid hne
        have HBB := Lib.hid hB
        have HM := Lib.hid (show m + th + (n - th) ≤ 1024 by omega)
        have HCA := Lib.hid hcast
        have HL := Lib.hid hl
        obtain ⟨i0, hq0, hz0, hz1, hz2⟩ := info_parts ent_row
        clear h hs hne hc hthl hthb h2 hl h3 htl hdl hel hkk hB hcast hi1
        have hw1 : IntKind.i64.wrap ((m : Int) + (n : Int)) = (m : Int) + (n : Int) := wr_i64 (by clear h3'; omega) (by clear h3'; omega)
        have hw1' : wrap64 ((m : Int) + (n : Int)) = (m : Int) + (n : Int) := wr_64 (by clear h3'; omega) (by clear h3'; omega)
        have hw2 : IntKind.i64.wrap ((m : Int) + (th : Int)) = (m : Int) + (th : Int) := wr_i64 (by omega) (by omega)
        have hw2' : wrap64 ((m : Int) + (th : Int)) = (m : Int) + (th : Int) := wr_64 (by omega) (by omega)
        have hw3 : IntKind.i64.wrap ((m : Int) + (th : Int) + 1) = (m : Int) + (th : Int) + 1 := wr_i64 (by omega) (by omega)
        have hw3' : wrap64 ((m : Int) + (th : Int) + 1) = (m : Int) + (th : Int) + 1 := wr_64 (by omega) (by omega)
        clear hthm hmm
        simp only
        go_enter Try.func29, Try.ntmps29
        go_wp2_with fail
        refine HF.out.mono ?_
        rintro e w1 ⟨rfl, hb1⟩
        go_wp2_with fail
        refine (HT.out w1 hb1).mono ?_
        rintro e w2 ⟨rfl, hb2⟩
        have hb3 := bthen hb1 hb2
        clear hb1 hb2 HF HT
        go_wp2_with fail
        rw [HCA.out]
        refine (lCut_any base g f es (m + th) w2 (H.out.on hb3) HEL.out).mono ?_
        rintro e w3 ⟨rfl, f1, hla, hmv, hf1⟩
        have hs3 := Sees.moved (Sees.on HS.out hb3) hmv (fun hp => HNE.out (by have h9 := HL.out; clear hw1 hw1' hw2 hw2' hw3 hw3'; omega))
        have hs4 := HSD.out _ hs3
        obtain ⟨A1, c1, hbk, hg, hfr, hff⟩ := hla
        rw [HTL.out] at hbk hfr
        have c0 : w3.cell? ⟨g, 0, none⟩ = some (.slice A1 (m + th) c1) := by rw [hbk.cell]; rfl
        have HBK := Lib.hid hbk
        have HFR := Lib.hid hfr
        have HFF := Lib.hid hff
        have HF1 := Lib.hid hf1
        have HS4 := Lib.hid hs4
        have HMV := Lib.hid hmv
        have HB3 := Lib.hid hb3
        have hm1 : m + th + (n - th) ≤ maxLen := Nat.le_trans HM.out (by decide)
        have hm2 : (m + th + (n - th)) * 24 ≤ 140737488355328 := Nat.le_trans (Nat.mul_le_mul_right 24 HM.out) (by decide)
        clear hs3 hs4 hbk hfr hff hf1 hmv hb3 HS HSD HNE
        go_wp2_with fail
        have hs5 : Sees w3 w3.heap.size A4 ((n - th) * 2) (ecs (l.drop th)) := by have h9 := HS4.out; unfold Ents at h9; rwa [HDL.out] at h9
        have HS5 := Lib.hid hs5
        have HBZ := Lib.hid (Nat.le_trans HBB.out (Nat.le_trans HB3.out.size HMV.out.size))
        clear hs5 hw1 hw1' hw2 hw2' HS4
        go_region_law (refine step_append_freeN (sz := 2) rfl (.tmp 42) (.tmp 45) 23 rfl base 62 i0 _ 24 sl_ent hq0 hz0 hz1 hz2 rfl (by decide) A1 (m + th) c1 (ecs (es.take (m + th))) (by simp [Act.eval]) (by exact HFR.out) _ A4 (n - th) (c - th) (ecs (l.drop th)) (by simp [Act.eval]) (by exact HS5.out) (ecs_one _) hm1 hm2 (by exact HBZ.out) ?_
                       intro A3 c3 w4 ha3
                       obtain ⟨d0, f0, hlm⟩ := log_appended HBK.out hg HTL.out HDL.out HFR.out (ha3.same rfl rfl rfl rfl)
                       have HLM := Lib.hid hlm
                       clear hlm)
        all_goals
          go_wp2_with fail
          go_ret2
          have hff := HFF.out
          subst hff
          exact ⟨rfl, LogMoves.behind HB3.out (LogMoves.cut_then HMV.out HF1.out HLM.out)⟩
set_option maxRecDepth 100000 in
theorem lPut_nil (i t : Int) (v : Value) (w : World) :
    Calls Try.prog 29 #[.pointer none, .int .i64 i, .int .i64 t, v] w fun e w' => e = .returned (.tuple #[.int .i64 0, .int .i64 1]) ∧ w' = w := by
  go_enter Try.func29, Try.ntmps29
  go_wp2_with fail
  refine (lFits_nil i t v w).mono ?_
  rintro e w1 ⟨rfl, rfl⟩
  go_wp2_with fail
  go_ret2
  exact ⟨rfl, rfl⟩
set_option maxRecDepth 100000 in
theorem lAdd_nil (x : Ent) (w : World) :
    Calls Try.prog 27 #[.pointer none, .agg #[.int .i64 x.t, .string x.s]] w fun e w' => e = .returned (.int .i64 1) ∧ Below w.heap.size w w' := by
  go_enter Try.func27, Try.ntmps27
  go_wp2_with fail
  go_ret
  exact ⟨rfl, (Below.refl _ _).alloc (Nat.le_refl _) _⟩
end Go.Proofs.Ytcmeindekbjefaa
