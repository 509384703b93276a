/- The walks of package hard's Right, of the document's own Right and Same (kissinggateref06), and of the statements' few. -/
import Derived.Test.YtmhgbpgbnfdokaaHardM
import Derived.Test.YtmhgbpgbnfdokaaLog1
import Derived.BigQuiet
namespace Go.Proofs.Ytmhgbpgbnfdokaa
open Go.RowKit

set_option maxRecDepth 100000 in
/-- hard.within -/
theorem within_any (n a b : Int) (r : Bool) (hr : (decide (a ≤ n) && decide (n ≤ b)) = r) (w : World) :
    Calls Try.prog 44 #[.int .i64 n, .int .i64 a, .int .i64 b] w fun e w' => e = .returned (.bool r) ∧ w' = w := by
  subst hr
  by_cases h : a ≤ n
  · rw [decide_eq_true h, Bool.true_and]
    go_enter Try.func44, Try.ntmps44
    go_wp2_with fail
    go_ret
    exact ⟨rfl, rfl⟩
  · rw [decide_eq_false h, Bool.false_and]
    have h' : n < a := by omega
    go_enter Try.func44, Try.ntmps44
    go_wp2_with fail
    go_ret
    exact ⟨by first | rfl | (show Ending.returned (.bool (decide (a ≤ n))) = _; rw [decide_eq_false h]), rfl⟩

/-- a state's cells -/
def StAt (w : World) (g : Nat) (t v : Int) (A : Option Addr) (n c : Nat) : Prop := Blk w g 25 #[.int .i64 t, .int .i64 v, .slice A n c]

set_option maxRecDepth 100000 in
set_option maxHeartbeats 800000 in
/-- hard.Right -/
theorem right_any (s : StP) (A : Option Addr) (n c : Nat) (w : World) (hs : Ents w w.heap.size A s.es) (hl : s.es.length = n) (hn : n ≤ 1099511627776) :
    Calls Try.prog 14 #[.agg #[.int .i64 s.t, .int .i64 s.v, .slice A n c]] w fun e w' => e = .returned (.bool (rightS s)) ∧ Below w.heap.size w w' := by
  obtain ⟨t, v, es⟩ := s
  simp only at hs hl ⊢
  have hA := Blk.new w 25 #[.int .i64 t, .int .i64 v, .slice A n c]
  have hb0 := (Below.refl w.heap.size w).alloc (Nat.le_refl _) (.cells #[.int .i64 t, .int .i64 v, .slice A n c] 25)
  have HC := Lib.hid (fun (W : World) (hW : Below (w.alloc (.cells #[.int .i64 t, .int .i64 v, .slice A n c] 25)).heap.size (w.alloc (.cells #[.int .i64 t, .int .i64 v, .slice A n c] 25)) W) =>
    have hk := hA.below hW hA.lt
    (⟨by rw [hk.cell]; rfl, by rw [hk.cell]; rfl, by rw [hk.cell]; rfl⟩ : W.cell? ⟨w.heap.size, 0, none⟩ = some (.int .i64 t) ∧ W.cell? ⟨w.heap.size, 1, none⟩ = some (.int .i64 v) ∧ W.cell? ⟨w.heap.size, 2, none⟩ = some (.slice A n c)))
  obtain ⟨c0, c1, c2⟩ := HC.out _ (Below.refl _ _)
  have HS := Lib.hid (Sees.on hs hb0)
  have HB := Lib.hid hb0
  unfold rightS
  simp only
  clear hA hs hb0
  by_cases h1 : 0 ≤ t ∧ t ≤ 1099511627776
  · have q1 := fun W => within_any t 0 1099511627776 true (by simp [h1.1, h1.2]) W
    rw [decide_eq_true h1, Bool.true_and]
    by_cases h2 : -1 ≤ v ∧ v ≤ 6
    · have q2 := fun W => within_any v (-1) 6 true (by simp [h2.1, h2.2]) W
      rw [decide_eq_true h2, Bool.true_and]
      by_cases h3 : n ≤ 1024
      · have h3' : ¬ (1024 : Int) < (n : Int) := by omega
        rw [decide_eq_true (show es.length ≤ 1024 by omega), Bool.true_and]
        have Q1 := Lib.hid q1
        have Q2 := Lib.hid q2
        clear q1 q2 h1 h2
        generalize hR : entsOk 1 t es = R
        have HR := Lib.hid hR
        clear hR
        go_enter Try.func14, Try.ntmps14
        go_wp2_with fail
        generalize w.alloc (.cells #[.int .i64 t, .int .i64 v, .slice A n c] 25) = w0 at *
        refine (Q1.out _).mono ?_
        rintro e w1 ⟨rfl, rfl⟩
        go_wp2_with fail
        refine (Q2.out _).mono ?_
        rintro e w2 ⟨rfl, rfl⟩
        go_wp2_with fail
        clear Q1 Q2 c0 c1 c2
        go_loopw [3, 25] (fun lv iv wr => ∃ k : Nat, k ≤ n ∧ lv = .int .i64 (upT 1 es k) ∧ iv = .int .i64 (k : Int) ∧ (∀ (j : Nat) (hj : j < es.length), j < k → upT 1 es j ≤ es[j].t ∧ es[j].t ≤ t ∧ es[j].s.size ≤ 512) ∧ Below w2.heap.size w2 wr) (fun _ iv _ => n - (intOf iv).toNat)
        case atStart => exact ⟨0, Nat.zero_le _, by rw [upT_zero], rfl, (fun j _ h => absurd h (by omega)), Below.refl _ _⟩
        case round =>
          obtain ⟨k, hk, rfl, rfl, hup, hbel⟩ := hrel
          by_cases hlt : k < n
          · have hkl : k < es.length := by omega
            obtain ⟨b, off, rfl, hbl, d0, d1⟩ := Ents.at_ HS.out hkl
            have d0' := (hbel.cell (p := ⟨b, off + k * 2, none⟩) hbl).trans d0
            have d1' := (hbel.cell (p := ⟨b, off + k * 2 + 1, none⟩) hbl).trans d1
            have hlt' : (k : Int) < (n : Int) := by omega
            have hnx := upT_succ 1 es k hkl
            have hbad := entsOk_bad 1 t es k hkl
            rw [HR.out] at hbad
            have HUP := Lib.hid hup
            have HX : ∃ x, es[k] = x := ⟨_, rfl⟩
            obtain ⟨x, hx⟩ := HX
            rw [hx] at d0' d1' hnx hbad
            have HXX := Lib.hid hx
            have HBAD := Lib.hid hbad
            have HNX := Lib.hid hnx
            have HU : ∃ u, upT 1 es k = u := ⟨_, rfl⟩
            obtain ⟨u, hu⟩ := HU
            rw [hu]
            rw [hu] at hbad
            have HUU := Lib.hid hu
            have HBAD := Lib.hid hbad
            obtain ⟨c0, c1, c2⟩ := HC.out wr hbel
            have hA2 := Blk.new wr 73 #[.int .i64 x.t, .string x.s]
            have HB2 := Lib.hid (hbel.alloc hbel.size (.cells #[.int .i64 x.t, .string x.s] 73))
            have e0 : (wr.alloc (.cells #[.int .i64 x.t, .string x.s] 73)).cell? ⟨wr.heap.size, 0, none⟩ = some (.int .i64 x.t) := by rw [hA2.cell]; rfl
            have e1 : (wr.alloc (.cells #[.int .i64 x.t, .string x.s] 73)).cell? ⟨wr.heap.size, 1, none⟩ = some (.string x.s) := by rw [hA2.cell]; rfl
            obtain ⟨k0, k1, k2⟩ := HC.out _ HB2.out
            have hk1024 : (k : Int) ≤ 1024 := by omega
            clear d0 d1 hup hx hnx hbad hu hA2 hbl hk hlt
            by_cases g1 : u ≤ x.t ∧ x.t ≤ t
            · have Q3 := Lib.hid (fun W => within_any x.t u t true (by simp [g1.1, g1.2]) W)
              by_cases g2 : (512 : Int) < (x.s.size : Int)
              · go_wp2_with fail
                refine (Q3.out _).mono ?_
                rintro e w3 ⟨rfl, rfl⟩
                go_wp2_with fail
                go_ret
                have hf := HBAD.out (by omega)
                subst hf
                exact ⟨rfl, HB.out.trans (HB2.out.mono HB.out.size)⟩
              · have HG := Lib.hid (show u ≤ x.t ∧ x.t ≤ t ∧ x.s.size ≤ 512 by omega)
                go_wp2_with fail
                refine (Q3.out _).mono ?_
                rintro e w3 ⟨rfl, rfl⟩
                go_wp2_with fail
                go_roundw
                case rel =>
                  refine ⟨k + 1, by omega, by rw [HNX.out], by go_num, fun j hj hjk => ?_, HB2.out⟩
                  by_cases e : j = k
                  · subst e
                    have h8 := HXX.out
                    have h9 := HUU.out
                    rw [h8, h9]
                    exact HG.out
                  · exact HUP.out j hj (by omega)
                case measure => simp [intOf]; omega
            · have Q3 := Lib.hid (fun W => within_any x.t u t false (by rw [← Bool.not_eq_true, Bool.and_eq_true, decide_eq_true_iff, decide_eq_true_iff]; exact g1) W)
              have hf := HBAD.out (fun h => g1 ⟨h.1, h.2.1⟩)
              subst hf
              clear g1
              go_wp2_with fail
              refine (Q3.out _).mono ?_
              rintro e w3 ⟨rfl, rfl⟩
              go_wp2_with fail
              go_ret
              exact ⟨rfl, HB.out.trans (HB2.out.mono HB.out.size)⟩
          · have hlt' : ¬ (k : Int) < (n : Int) := by omega
            have hall := entsOk_all 1 t es (fun j hj => hup j hj (by omega))
            have hr := HR.out
            rw [hall] at hr
            subst hr
            have HF := Lib.hid (HB.out.trans (hbel.mono HB.out.size))
            clear hup hall
            generalize upT 1 es k = u at *
            go_wp2_with fail
            go_ret
            exact ⟨rfl, HF.out⟩
      · have h3' : (1024 : Int) < (n : Int) := by omega
        rw [decide_eq_false (show ¬ es.length ≤ 1024 by omega), Bool.false_and]
        have Q1 := Lib.hid q1
        have Q2 := Lib.hid q2
        clear q1 q2 h1 h2 HS
        go_enter Try.func14, Try.ntmps14
        go_wp2_with fail
        refine (Q1.out _).mono ?_
        rintro e w1 ⟨rfl, rfl⟩
        go_wp2_with fail
        refine (Q2.out _).mono ?_
        rintro e w2 ⟨rfl, rfl⟩
        go_wp2_with fail
        go_ret
        exact ⟨rfl, HB.out⟩
    · have q2 := fun W => within_any v (-1) 6 false (by rw [← Bool.not_eq_true, Bool.and_eq_true, decide_eq_true_iff, decide_eq_true_iff]; exact h2) W
      rw [decide_eq_false h2, Bool.false_and, Bool.false_and]
      have Q1 := Lib.hid q1
      have Q2 := Lib.hid q2
      clear q1 q2 h1 h2 HS
      go_enter Try.func14, Try.ntmps14
      go_wp2_with fail
      refine (Q1.out _).mono ?_
      rintro e w1 ⟨rfl, rfl⟩
      go_wp2_with fail
      refine (Q2.out _).mono ?_
      rintro e w2 ⟨rfl, rfl⟩
      go_wp2_with fail
      go_ret
      exact ⟨rfl, HB.out⟩
  · have q1 := fun W => within_any t 0 1099511627776 false (by rw [← Bool.not_eq_true, Bool.and_eq_true, decide_eq_true_iff, decide_eq_true_iff]; exact h1) W
    rw [decide_eq_false h1, Bool.false_and, Bool.false_and, Bool.false_and]
    have Q1 := Lib.hid q1
    clear q1 h1 HS
    go_enter Try.func14, Try.ntmps14
    go_wp2_with fail
    refine (Q1.out _).mono ?_
    rintro e w1 ⟨rfl, rfl⟩
    go_wp2_with fail
    go_ret
    exact ⟨rfl, HB.out⟩

theorem rightS_t (s : StP) (h : ¬ (0 ≤ s.t ∧ s.t ≤ 1099511627776)) : rightS s = false := by unfold rightS; rw [decide_eq_false h]; rfl
theorem rightS_v (s : StP) (h : ¬ (-1 ≤ s.v ∧ s.v ≤ 6)) : rightS s = false := by unfold rightS; rw [decide_eq_false h, Bool.and_false]; rfl
theorem rightS_n (s : StP) (h : ¬ s.es.length ≤ 1024) : rightS s = false := by unfold rightS; rw [decide_eq_false h, Bool.and_false]; rfl
theorem rightS_e (s : StP) (h1 : 0 ≤ s.t ∧ s.t ≤ 1099511627776) (h2 : -1 ≤ s.v ∧ s.v ≤ 6) (h3 : s.es.length ≤ 1024) : rightS s = entsOk 1 s.t s.es := by unfold rightS; rw [decide_eq_true h1, decide_eq_true h2, decide_eq_true h3]; rfl

set_option maxRecDepth 100000 in
set_option maxHeartbeats 800000 in
/-- kissinggateref06.Right -/
theorem refRight6_any (s : StP) (A : Option Addr) (n c : Nat) (w : World) (hs : Ents w w.heap.size A s.es) (hl : s.es.length = n) (hn : n ≤ 1099511627776) :
    Calls Try.prog 15 #[.agg #[.int .i64 s.t, .int .i64 s.v, .slice A n c]] w fun e w' => e = .returned (.bool (rightS s)) ∧ Below w.heap.size w w' := by
  have HT := Lib.hid (rightS_t s)
  have HV := Lib.hid (rightS_v s)
  have HN := Lib.hid (rightS_n s)
  have HE := Lib.hid (rightS_e s)
  generalize rightS s = R at *
  obtain ⟨t, v, es⟩ := s
  simp only at hs hl HT HV HN HE ⊢
  have hA := Blk.new w 25 #[.int .i64 t, .int .i64 v, .slice A n c]
  have hb0 := (Below.refl w.heap.size w).alloc (Nat.le_refl _) (.cells #[.int .i64 t, .int .i64 v, .slice A n c] 25)
  have HC := Lib.hid (fun (W : World) (hW : Below (w.alloc (.cells #[.int .i64 t, .int .i64 v, .slice A n c] 25)).heap.size (w.alloc (.cells #[.int .i64 t, .int .i64 v, .slice A n c] 25)) W) =>
    have hk := hA.below hW hA.lt
    (⟨by rw [hk.cell]; rfl, by rw [hk.cell]; rfl, by rw [hk.cell]; rfl⟩ : W.cell? ⟨w.heap.size, 0, none⟩ = some (.int .i64 t) ∧ W.cell? ⟨w.heap.size, 1, none⟩ = some (.int .i64 v) ∧ W.cell? ⟨w.heap.size, 2, none⟩ = some (.slice A n c)))
  obtain ⟨c0, c1, c2⟩ := HC.out _ (Below.refl _ _)
  have HS := Lib.hid (Sees.on hs hb0)
  have HB := Lib.hid hb0
  clear hA hs hb0
  by_cases a1 : t < 0
  · have hr := HT.out (by omega)
    subst hr
    clear HS
    go_enter Try.func15, Try.ntmps15
    go_wp2_with fail
    go_ret
    exact ⟨rfl, HB.out⟩
  by_cases a2 : 1099511627776 < t
  · have hr := HT.out (by omega)
    subst hr
    clear HS
    go_enter Try.func15, Try.ntmps15
    go_wp2_with fail
    go_ret
    exact ⟨rfl, HB.out⟩
  by_cases a3 : v < -1
  · have hr := HV.out (by omega)
    subst hr
    clear HS
    go_enter Try.func15, Try.ntmps15
    go_wp2_with fail
    go_ret
    exact ⟨rfl, HB.out⟩
  by_cases a4 : 6 < v
  · have hr := HV.out (by omega)
    subst hr
    clear HS
    go_enter Try.func15, Try.ntmps15
    go_wp2_with fail
    go_ret
    exact ⟨rfl, HB.out⟩
  by_cases a5 : (1024 : Int) < (n : Int)
  · have hr := HN.out (by omega)
    subst hr
    clear HS
    go_enter Try.func15, Try.ntmps15
    go_wp2_with fail
    go_ret
    exact ⟨rfl, HB.out⟩
  have hR := (HE.out (by omega) (by omega) (by omega)).symm
  have HR := Lib.hid hR
  have h3 : n ≤ 1024 := by omega
  clear hR HT HV HN HE
  go_enter Try.func15, Try.ntmps15
  go_wp2_with fail
  generalize w.alloc (.cells #[.int .i64 t, .int .i64 v, .slice A n c] 25) = w2 at *
  clear c0 c1 c2 a1 a2 a3 a4 a5
  go_loopw [3, 33] (fun lv iv wr => ∃ k : Nat, k ≤ n ∧ lv = .int .i64 (upT 1 es k) ∧ iv = .int .i64 (k : Int) ∧ (∀ (j : Nat) (hj : j < es.length), j < k → upT 1 es j ≤ es[j].t ∧ es[j].t ≤ t ∧ es[j].s.size ≤ 512) ∧ Below w2.heap.size w2 wr) (fun _ iv _ => n - (intOf iv).toNat)
  case atStart => exact ⟨0, Nat.zero_le _, by rw [upT_zero], rfl, (fun j _ h => absurd h (by omega)), Below.refl _ _⟩
  case round =>
    obtain ⟨k, hk, rfl, rfl, hup, hbel⟩ := hrel
    by_cases hlt : k < n
    · have hkl : k < es.length := by omega
      obtain ⟨b, off, rfl, hbl, d0, d1⟩ := Ents.at_ HS.out hkl
      have d0' := (hbel.cell (p := ⟨b, off + k * 2, none⟩) hbl).trans d0
      have d1' := (hbel.cell (p := ⟨b, off + k * 2 + 1, none⟩) hbl).trans d1
      have hlt' : (k : Int) < (n : Int) := by omega
      have hnx := upT_succ 1 es k hkl
      have hbad := entsOk_bad 1 t es k hkl
      rw [HR.out] at hbad
      have HUP := Lib.hid hup
      have HX : ∃ x, es[k] = x := ⟨_, rfl⟩
      obtain ⟨x, hx⟩ := HX
      rw [hx] at d0' d1' hnx hbad
      have HXX := Lib.hid hx
      have HNX := Lib.hid hnx
      have HU : ∃ u, upT 1 es k = u := ⟨_, rfl⟩
      obtain ⟨u, hu⟩ := HU
      rw [hu]
      rw [hu] at hbad
      have HUU := Lib.hid hu
      have HBAD := Lib.hid hbad
      obtain ⟨c0, c1, c2⟩ := HC.out wr hbel
      have hA2 := Blk.new wr 73 #[.int .i64 x.t, .string x.s]
      have HB2 := Lib.hid (hbel.alloc hbel.size (.cells #[.int .i64 x.t, .string x.s] 73))
      have e0 : (wr.alloc (.cells #[.int .i64 x.t, .string x.s] 73)).cell? ⟨wr.heap.size, 0, none⟩ = some (.int .i64 x.t) := by rw [hA2.cell]; rfl
      have e1 : (wr.alloc (.cells #[.int .i64 x.t, .string x.s] 73)).cell? ⟨wr.heap.size, 1, none⟩ = some (.string x.s) := by rw [hA2.cell]; rfl
      obtain ⟨k0, k1, k2⟩ := HC.out _ HB2.out
      have hk1024 : (k : Int) ≤ 1024 := by omega
      clear d0 d1 hup hx hnx hbad hu hA2 hbl hk hlt
      by_cases g1 : x.t < u
      · have hf := HBAD.out (by omega)
        subst hf
        go_wp2_with fail
        go_ret
        exact ⟨rfl, HB.out.trans (HB2.out.mono HB.out.size)⟩
      by_cases g2 : t < x.t
      · have hf := HBAD.out (by omega)
        subst hf
        go_wp2_with fail
        go_ret
        exact ⟨rfl, HB.out.trans (HB2.out.mono HB.out.size)⟩
      by_cases g3 : (512 : Int) < (x.s.size : Int)
      · have hf := HBAD.out (by omega)
        subst hf
        go_wp2_with fail
        go_ret
        exact ⟨rfl, HB.out.trans (HB2.out.mono HB.out.size)⟩
      have HG := Lib.hid (show u ≤ x.t ∧ x.t ≤ t ∧ x.s.size ≤ 512 by omega)
      go_wp2_with fail
      go_roundw
      case rel =>
        refine ⟨k + 1, by omega, by rw [HNX.out], by go_num, fun j hj hjk => ?_, HB2.out⟩
        by_cases e : j = k
        · subst e
          have h8 := HXX.out
          have h9 := HUU.out
          rw [h8, h9]
          exact HG.out
        · exact HUP.out j hj (by omega)
      case measure => simp [intOf]; omega
    · have hlt' : ¬ (k : Int) < (n : Int) := by omega
      have hall := entsOk_all 1 t es (fun j hj => hup j hj (by omega))
      have hr := HR.out
      rw [hall] at hr
      subst hr
      have HF := Lib.hid (HB.out.trans (hbel.mono HB.out.size))
      clear hup hall
      generalize upT 1 es k = u at *
      go_wp2_with fail
      go_ret
      exact ⟨rfl, HF.out⟩

/-- what Same answers -/
def SameRet (w : World) (p : Prop) (e : Ending) (w' : World) : Prop := ∃ r, e = .returned (.bool r) ∧ (p → r = true) ∧ Below w.heap.size w w'

set_option maxRecDepth 100000 in
set_option maxHeartbeats 800000 in
/-- kissinggateref06.Same -/
theorem same6_any (a b : StP) (A A' : Option Addr) (n n' c c' : Nat) (w : World) (hs : Ents w w.heap.size A a.es) (hl : a.es.length = n) (hs' : Ents w w.heap.size A' b.es) (hl' : b.es.length = n') (hn : n ≤ 1099511627776) :
    Calls Try.prog 16 #[.agg #[.int .i64 a.t, .int .i64 a.v, .slice A n c], .agg #[.int .i64 b.t, .int .i64 b.v, .slice A' n' c']] w (SameRet w (a = b)) := by
  obtain ⟨t, v, es⟩ := a
  obtain ⟨t', v', es'⟩ := b
  simp only at hs hl hs' hl' ⊢
  have hA := Blk.new w 25 #[.int .i64 t, .int .i64 v, .slice A n c]
  have hb0 := (Below.refl w.heap.size w).alloc (Nat.le_refl _) (.cells #[.int .i64 t, .int .i64 v, .slice A n c] 25)
  have hA' := Blk.new (w.alloc (.cells #[.int .i64 t, .int .i64 v, .slice A n c] 25)) 25 #[.int .i64 t', .int .i64 v', .slice A' n' c']
  have hb1 := hb0.alloc hb0.size (.cells #[.int .i64 t', .int .i64 v', .slice A' n' c'] 25)
  have hA2 := hA.alloc (.cells #[.int .i64 t', .int .i64 v', .slice A' n' c'] 25)
  have hsz : (w.alloc (.cells #[.int .i64 t, .int .i64 v, .slice A n c] 25)).heap.size = w.heap.size + 1 := by simp
  rw [hsz] at hA'
  have HC := Lib.hid (fun (W : World) (hW : Below ((w.alloc (.cells #[.int .i64 t, .int .i64 v, .slice A n c] 25)).alloc (.cells #[.int .i64 t', .int .i64 v', .slice A' n' c'] 25)).heap.size ((w.alloc (.cells #[.int .i64 t, .int .i64 v, .slice A n c] 25)).alloc (.cells #[.int .i64 t', .int .i64 v', .slice A' n' c'] 25)) W) =>
    have hk := hA2.below hW hA2.lt
    have hk' := hA'.below hW hA'.lt
    (⟨by rw [hk.cell]; rfl, by rw [hk.cell]; rfl, by rw [hk.cell]; rfl, by rw [hk'.cell]; rfl, by rw [hk'.cell]; rfl, by rw [hk'.cell]; rfl⟩ : W.cell? ⟨w.heap.size, 0, none⟩ = some (.int .i64 t) ∧ W.cell? ⟨w.heap.size, 1, none⟩ = some (.int .i64 v) ∧ W.cell? ⟨w.heap.size, 2, none⟩ = some (.slice A n c) ∧ W.cell? ⟨w.heap.size + 1, 0, none⟩ = some (.int .i64 t') ∧ W.cell? ⟨w.heap.size + 1, 1, none⟩ = some (.int .i64 v') ∧ W.cell? ⟨w.heap.size + 1, 2, none⟩ = some (.slice A' n' c')))
  obtain ⟨c0, c1, c2, c3, c4, c5⟩ := HC.out _ (Below.refl _ _)
  have HS := Lib.hid (Sees.on hs hb1)
  have HS' := Lib.hid (Sees.on hs' hb1)
  have HB := Lib.hid hb1
  clear hA hA' hA2 hs hs' hb0 hb1 hsz
  by_cases a1 : t = t'
  · by_cases a2 : v = v'
    · by_cases a3 : n = n'
      · subst a1
        subst a2
        subst a3
        go_enter Try.func16, Try.ntmps16
        go_wp2_with fail
        generalize (w.alloc (.cells #[.int .i64 t, .int .i64 v, .slice A n c] 25)).alloc (.cells #[.int .i64 t, .int .i64 v, .slice A' n c'] 25) = w2 at *
        clear c0 c1 c2 c3 c4 c5
        go_loopw [30] (fun iv wr => ∃ k : Nat, k ≤ n ∧ iv = .int .i64 (k : Int) ∧ Below w2.heap.size w2 wr) (fun iv _ => n - (intOf iv).toNat)
        case atStart => exact ⟨0, Nat.zero_le _, rfl, Below.refl _ _⟩
        case round =>
          obtain ⟨k, hk, rfl, hbel⟩ := hrel
          obtain ⟨c0, c1, c2, c3, c4, c5⟩ := HC.out wr hbel
          by_cases hlt : k < n
          · have hkl : k < es.length := by omega
            have hkl' : k < es'.length := by omega
            obtain ⟨b1, off1, rfl, hbl1, d0, d1⟩ := Ents.at_ HS.out hkl
            obtain ⟨b2, off2, rfl, hbl2, f0, f1⟩ := Ents.at_ HS'.out hkl'
            have d0' := (hbel.cell (p := ⟨b1, off1 + k * 2, none⟩) hbl1).trans d0
            have d1' := (hbel.cell (p := ⟨b1, off1 + k * 2 + 1, none⟩) hbl1).trans d1
            have f0' := (hbel.cell (p := ⟨b2, off2 + k * 2, none⟩) hbl2).trans f0
            have f1' := (hbel.cell (p := ⟨b2, off2 + k * 2 + 1, none⟩) hbl2).trans f1
            have hlt' : (k : Int) < (n : Int) := by omega
            have hkn : (k : Int) ≤ 1099511627776 := by omega
            have HEQ := Lib.hid (show es = es' → es[k] = es'[k] from fun h => by subst h; rfl)
            have HBEL := Lib.hid hbel
            clear d0 d1 f0 f1 hbl1 hbl2 hbel
            generalize es[k] = x at *
            generalize es'[k] = y at *
            go_upto_region 6 with (fail)
            by_cases hxt : x.t = y.t
            · by_cases hxs : x.s = y.s
              · have hq1 : (y.t != y.t) = false := by simp
                rw [hxt] at d0'
                rw [hxs] at d1'
                go_big_quiet (fail)
                go_wp2_with fail
                go_roundw
                case rel => exact ⟨k + 1, by omega, by go_num, below_drewN HBEL.out nq⟩
                case measure => simp [intOf]; omega
              · have HNX := Lib.hid (show es ≠ es' from fun h => hxs (by rw [HEQ.out h]))
                have hq1 : (y.t != y.t) = false := by simp
                have hq2 : x.s.data.toList ≠ y.s.data.toList := fun h => hxs (by apply ByteArray.ext; exact Array.toList_inj.1 h)
                have hq3 : (x.s.data.toList == y.s.data.toList) = false := by rw [beq_eq_false_iff_ne]; exact hq2
                have hq4 : (x.s.toList == y.s.toList) = false := by rw [beq_eq_false_iff_ne, ByteArray.toList_eq, ByteArray.toList_eq]; exact hq2
                have hq5 : x.s.data ≠ y.s.data := fun h => hq2 (by rw [h])
                have hq6 : (x.s.data == y.s.data) = false := by rw [beq_eq_false_iff_ne]; exact hq5
                rw [hxt] at d0'
                go_big_quiet (fail)
                go_wp2_with fail
                go_ret
                exact ⟨false, rfl, fun h => absurd (by injection h) HNX.out, HB.out.trans ((below_drewN HBEL.out nq).mono HB.out.size)⟩
            · have HNX := Lib.hid (show es ≠ es' from fun h => hxt (by rw [HEQ.out h]))
              have hq1 : (x.t == y.t) = false := by rw [beq_eq_false_iff_ne]; exact hxt
              go_big_quiet (fail)
              go_wp2_with fail
              go_ret
              exact ⟨false, rfl, fun h => absurd (by injection h) HNX.out, HB.out.trans ((below_drewN HBEL.out nq).mono HB.out.size)⟩
          · have hlt' : ¬ (k : Int) < (n : Int) := by omega
            have HF := Lib.hid (HB.out.trans (hbel.mono HB.out.size))
            go_wp2_with fail
            go_ret
            exact ⟨true, rfl, fun _ => rfl, HF.out⟩
      · have q3 : ((n : Int) != (n' : Int)) = true := by simp; omega
        have HNE := Lib.hid (show (⟨t, v, es⟩ : StP) ≠ ⟨t', v', es'⟩ from fun h => by injection h with _ _ h; subst h; omega)
        subst a1
        subst a2
        clear HS HS'
        go_enter Try.func16, Try.ntmps16
        go_wp2_with fail
        go_ret
        exact ⟨false, rfl, fun h => absurd h HNE.out, HB.out⟩
    · have q2 : (v != v') = true := by simpa using a2
      subst a1
      clear HS HS'
      go_enter Try.func16, Try.ntmps16
      go_wp2_with fail
      go_ret
      exact ⟨false, rfl, fun h => absurd (by injection h) a2, HB.out⟩
  · have q1 : (t != t') = true := by simpa using a1
    clear HS HS'
    go_enter Try.func16, Try.ntmps16
    go_wp2_with fail
    go_ret
    exact ⟨false, rfl, fun h => absurd (by injection h) a1, HB.out⟩
end Go.Proofs.Ytmhgbpgbnfdokaa
