/- The walks of package log: From, and what changes a log. -/
import Derived.Test.YtmhgbpgbnfdokaaLog1
import Derived.Deep.RegionLaw
import Derived.Deep.AppendLies
namespace Go.Proofs.Ytmhgbpgbnfdokaa
open Go.RowKit

theorem ent_size (W : World) : (sizeOf (Try.prog.elem 23)).run Try.prog W = .ok 2 W := by go_simp
/-- 's[k:h]' -/
theorem ents_part (A : Option Addr) (n c k h : Nat) (z y : Int) (hz : z = (k : Int)) (hy : y = (h : Int)) (hk : k ≤ h) (hh : h ≤ c) (W : World) :
    (Instr.slice 23 (.slice A n c) (some (.int .i64 z)) (some (.int .i64 y)) none).run Try.prog W = .ok (.slice (if c = k then A else A.map (·.add (k * 2))) (h - k) (c - k)) W := by
  subst hz
  subst hy
  have hr := run_slice_lh (P := Try.prog) (w := W) 23 A n c (by kernel_rfl) .i64 .i64 (k : Int) (h : Int) (by omega) (by omega) (by omega)
  rw [hr, ent_size]
  simp only [Result.andThen, sliced, Int.toNat_natCast]
/-- 's[k:]' -/
theorem ents_from (A : Option Addr) (n c k : Nat) (z : Int) (hz : z = (k : Int)) (hk : k ≤ n) (W : World) :
    (Instr.slice 23 (.slice A n c) (some (.int .i64 z)) none none).run Try.prog W = .ok (.slice (if c = k then A else A.map (·.add (k * 2))) (n - k) (c - k)) W := by
  subst hz
  have hr := run_slice_l (P := Try.prog) (w := W) 23 A n c (by kernel_rfl) .i64 (k : Int) (by omega) (by omega)
  rw [hr, ent_size]
  simp only [Result.andThen, sliced, Int.toNat_natCast]
/-- 's[:k]' -/
theorem ents_upto (A : Option Addr) (n c k : Nat) (z : Int) (hz : z = (k : Int)) (hk : k ≤ c) (W : World) :
    (Instr.slice 23 (.slice A n c) none (some (.int .i64 z)) none).run Try.prog W = .ok (.slice A k c) W := by
  subst hz
  have hr := run_slice_h (P := Try.prog) (w := W) 23 A n c (by kernel_rfl) .i64 (k : Int) (by omega) (by omega)
  rw [hr, ent_size]
  simp only [Result.andThen, sliced, Nat.zero_mul, add_zero_map, ite_self, Int.toNat_natCast, Nat.sub_zero]
/-- 's[:k:k]' -/
theorem ents_cut (A : Option Addr) (n c k : Nat) (z : Int) (hz : z = (k : Int)) (hk : k ≤ c) (W : World) :
    (Instr.slice 23 (.slice A n c) none (some (.int .i64 z)) (some (.int .i64 z))).run Try.prog W = .ok (.slice A k k) W := by
  subst hz
  have hr := run_slice_hm (P := Try.prog) (w := W) 23 A n c (by kernel_rfl) .i64 .i64 (k : Int) (k : Int) (by omega) (by omega) (by omega)
  rw [hr, ent_size]
  simp only [Result.andThen, sliced, Nat.zero_mul, add_zero_map, ite_self, Int.toNat_natCast, Nat.sub_zero]

theorem fromN_nat (n : Nat) (i m : Int) : ∃ k h : Nat, (fromN n i m).1 = k ∧ (fromN n i m).2 = h ∧ k + h ≤ n := by
  unfold fromN
  exact ⟨(min (max i 1 - 1) (n : Int)).toNat, (min (max m 0) ((n : Int) - min (max i 1 - 1) n)).toNat, by omega, by simp only; omega, by omega⟩

/-- new entries are answered -/
def EntsRet (w : World) (r : List Ent) (e : Ending) (w' : World) : Prop :=
  ∃ A n c, e = .returned (.slice A n c) ∧ r.length = n ∧ FreeN 2 w' w.heap.size 73 A n c (ecs r) ∧ Below w.heap.size w w'

set_option maxRecDepth 100000 in
set_option maxHeartbeats 800000 in
/-- (*log.Log).From -/
theorem lFrom_any (base g : Nat) (f : Option Nat) (es : List Ent) (i m : Int) (w : World) (h : LogAt w base g f es) (hn : es.length ≤ 1099511627776) (hi : i < 9223372036854775808) :
    Calls Try.prog 64 #[.pointer (some ⟨g, 0, none⟩), .int .i64 i, .int .i64 m] w (EntsRet w (fromF es i m)) := by
  obtain ⟨A, c, hb, _, hf, _⟩ := h
  have c0 : w.cell? ⟨g, 0, none⟩ = some (.slice A es.length c) := by rw [hb.cell]; rfl
  obtain ⟨k, q, hk, hq, hkq⟩ := fromN_nat es.length i m
  have hsl := fun W => ents_part A es.length c k (k + q) (k : Int) ((k : Int) + (q : Int)) rfl (by omega) (by omega) (Nat.le_trans hkq hf.2.1) W
  have hnc : es.length ≤ c := hf.2.1
  have hs1 : Ents w w.heap.size (if c = k then A else A.map (·.add (k * 2))) (es.drop k) := Ents.drop hf.sees rfl (by omega) hnc
  have hs2 := hs1.take (k := q) (by rw [List.length_drop]; omega)
  have hF : fromF es i m = (es.drop k).take q := by unfold fromF; rw [hk, hq, Int.toNat_natCast, Int.toNat_natCast]
  have hlF : ((es.drop k).take q).length = q := by rw [List.length_take, List.length_drop]; omega
  rw [hF]
  have e0 : k + q - k = q := by omega
  rw [e0] at hsl
  have HB := Lib.hid (fun c' => eclone_any _ q c' _ w hs2 hlF (by omega))
  have HLF := Lib.hid hlF
  unfold fromN at hk hq
  simp only at hk hq
  rw [hk] at hq
  have hw1 : IntKind.i64.wrap ((es.length : Int) - (k : Int)) = (es.length : Int) - (k : Int) := by rw [IntKind.wrap_i64]; omega
  have hw2 : IntKind.i64.wrap ((k : Int) + (q : Int)) = (k : Int) + (q : Int) := by rw [IntKind.wrap_i64]; omega
  have hw3 : IntKind.i64.wrap ((if i < 1 then 1 else i) - 1) = (if i < 1 then 1 else i) - 1 := by rw [IntKind.wrap_i64]; split <;> omega
  clear hb hf hs1 hs2 hF hlF
  generalize (if c = k then A else A.map (·.add (k * 2))) = A1 at *
  have hif1 : (if (es.length : Int) < (if i < 1 then 1 else i) - 1 then (es.length : Int) else (if i < 1 then 1 else i) - 1) = (k : Int) := by split <;> split at * <;> omega
  have hif2 : (if (es.length : Int) - (k : Int) < (if m < 0 then 0 else m) then (es.length : Int) - (k : Int) else (if m < 0 then 0 else m)) = (q : Int) := by split <;> split at * <;> omega
  clear hk hq hnc hkq e0 hn hi
  go_enter Try.func64, Try.ntmps64
  go_wp2_with (go_at_call 77; refine (HB.out _).mono ?_; rintro e w1 ⟨A2, c2, rfl, hf1, hb1⟩)
  all_goals
    go_ret
    exact ⟨A2, q, c2, rfl, HLF.out, hf1, hb1⟩
set_option maxRecDepth 100000 in
theorem lFrom_nil (i m : Int) (w : World) :
    Calls Try.prog 64 #[.pointer none, .int .i64 i, .int .i64 m] w fun e w' => e = .returned (.slice none 0 0) ∧ w' = w := by
  go_enter Try.func64, Try.ntmps64
  go_wp2_with fail
  go_ret
  exact ⟨rfl, rfl⟩

/-- entries' row lies in another block than the log -/
theorem foot_far {w : World} {base g n c : Nat} {A : Option Addr} {xs cs : List Value} (hb : Blk w g 131 cs.toArray) (h : FreeN 2 w base 73 A n c xs) : ∀ k, foot A c = some k → k ≠ g := by
  intro k hk
  obtain ⟨_, cur, hB⟩ := h.foot_at k hk
  exact hB.apart hb (by decide)

/-- what changes a log -/
def LogMoves (w : World) (base g : Nat) (f : Option Nat) (es : List Ent) (w' : World) : Prop :=
  ∃ f', LogAt w' base g f' es ∧ Moved g f w w' ∧ (f' = f ∨ f' = none ∨ ∃ k, f' = some k ∧ w.heap.size ≤ k)

set_option maxRecDepth 100000 in
set_option maxHeartbeats 800000 in
/-- (*log.Log).cut -/
theorem lCut_any (base g : Nat) (f : Option Nat) (es : List Ent) (k : Nat) (w : World) (h : LogAt w base g f es) (hk : k ≤ es.length) :
    Calls Try.prog 124 #[.pointer (some ⟨g, 0, none⟩), .int .i64 (k : Int)] w fun e w' => e = .returned (.tuple #[]) ∧ ∃ f', LogAt w' base g f' (es.take k) ∧ Moved g none w w' ∧ (f' = f ∨ f' = none) := by
  have HD := Lib.hid h
  obtain ⟨A, c, hb, hg, hf, rfl⟩ := h
  have c0 : w.cell? ⟨g, 0, none⟩ = some (.slice A es.length c) := by rw [hb.cell]; rfl
  have f0 := hb.frozen 0
  by_cases hlt : k < es.length
  · have hlt' : (k : Int) < (es.length : Int) := by omega
    have hkc : k ≤ c := by have := hf.2.1; omega
    have hsl := fun W => ents_cut A es.length c k (k : Int) rfl hkc W
    have HB := Lib.hid (hb.set_ 0 (.slice A k k))
    have hfc := hf.cut hk
    rw [ecs_take] at hfc
    have hfr := fun q hq => foot_far (cs := [.slice A es.length c]) hb hf q hq
    have hfk : foot A k = foot A c ∨ foot A k = none := foot_cut A c k hkc
    have HF := Lib.hid (hfc.far (p := ⟨g, 0, none⟩) (fun q hq => by
      rcases hfk with h | h
      · exact hfr q (by rw [← h]; exact hq)
      · rw [h] at hq; cases hq) (.slice A k k))
    have HFK := Lib.hid hfk
    have HG := Lib.hid hg
    have hl : (es.take k).length = k := by rw [List.length_take]; omega
    have HL := Lib.hid hl
    clear hb hf hfc hfr hfk hg hl HD hk hkc hlt
    go_enter Try.func124, Try.ntmps124
    go_wp2_with fail
    go_end0
    exact ⟨rfl, foot A k, ⟨A, k, by rw [HL.out]; exact HB.out, HG.out, by rw [HL.out]; exact HF.out, rfl⟩, (Moved.refl g _ w).set_ 0 _, HFK.out⟩
  · have hlt' : ¬ (k : Int) < (es.length : Int) := by omega
    have e : es.take k = es := List.take_of_length_le (by omega)
    rw [e]
    clear hb hf e hk hlt
    go_enter Try.func124, Try.ntmps124
    go_wp2_with fail
    go_end0
    exact ⟨rfl, _, HD.out, Moved.refl _ _ _, .inl rfl⟩

/-- behind both: what changes a log, and then again -/
theorem LogMoves.then_ {w w1 w2 : World} {base g : Nat} {f : Option Nat} {es1 es2 : List Ent} (h : LogMoves w base g f es1 w1) (k : ∀ f1, LogAt w1 base g f1 es1 → LogMoves w1 base g f1 es2 w2) : LogMoves w base g f es2 w2 := by
  obtain ⟨f1, hl, hm, hf⟩ := h
  obtain ⟨f2, hl2, hm2, hf2⟩ := k f1 hl
  refine ⟨f2, hl2, ⟨hm2.os.trans hm.os, hm2.tape.trans hm.tape, hm2.output.trans hm.output, Nat.le_trans hm.size hm2.size, fun i hi h1 h2 => ?_⟩, ?_⟩
  · refine (hm2.block i (Nat.lt_of_lt_of_le hi hm.size) h1 (fun e => ?_)).trans (hm.block i hi h1 h2)
    rcases hf with rfl | rfl | ⟨q, rfl, hq⟩
    · exact h2 e
    · cases e
    · injection e with e
      omega
  · rcases hf2 with rfl | rfl | ⟨q, rfl, hq⟩
    · exact hf
    · exact .inr (.inl rfl)
    · exact .inr (.inr ⟨q, rfl, Nat.le_trans hm.size hq⟩)
theorem LogMoves.below {w w' : World} {base g B : Nat} {f : Option Nat} {es es' : List Ent} (h : LogMoves w base g f es' w') (h0 : LogAt w base g f es) (hb : B ≤ base) (hB : B ≤ w.heap.size) : Below B w w' := by
  obtain ⟨f', _, hm, _⟩ := h
  exact hm.below (Nat.le_trans hb h0.base_le) (fun k hk => Nat.le_trans hb (h0.foot_at k hk).1) hB
theorem LogMoves.drew {w w' : World} {base g : Nat} {f : Option Nat} {es : List Ent} (h : LogMoves w base g f es w') : LogMoves w base g f es w'.drew := by
  obtain ⟨f', h1, h2, h3⟩ := h
  exact ⟨f', h1, h2.drew, h3⟩
theorem LogMoves.behind {w0 w w' : World} {base g : Nat} {f : Option Nat} {es : List Ent} (hb : Below w0.heap.size w0 w) (h : LogMoves w base g f es w') : LogMoves w0 base g f es w' := by
  obtain ⟨f', h1, h2, h3⟩ := h
  exact ⟨f', h1, h2.behind hb, h3.imp id (fun h => h.imp id (fun ⟨k, hk, hs⟩ => ⟨k, hk, Nat.le_trans hb.size hs⟩))⟩
/-- an append onto a log's entries, stored back -/
theorem log_appended {w w3 : World} {base g n c m c3 : Nat} {A A3 : Option Addr} {es l : List Ent} (hb : Blk w g 131 #[.slice A n c]) (hg : base ≤ g) (hn : es.length = n) (hm : l.length = m) (hf : FreeN 2 w base 73 A n c (ecs es)) (ha : AppendedN 2 w base 73 A n c (ecs es) m (ecs l) A3 c3 w3) :
    w3.cell? ⟨g, 0, none⟩ = some (.slice A n c) ∧ w3.frozen? ⟨g, 0, none⟩ = false ∧ LogMoves w base g (foot A c) (es ++ l) (w3.setCell ⟨g, 0, none⟩ (.slice A3 (n + m) c3)) := by
  subst hn
  subst hm
  obtain ⟨h1, h2, h3⟩ := ha
  have hfr := fun q hq => foot_far (cs := [.slice A es.length c]) hb hf q hq
  have hb3 : Blk w3 g 131 #[.slice A es.length c] := hb.grown h2 (fun e => hfr g e.symm rfl)
  refine ⟨by rw [hb3.cell]; rfl, hb3.frozen 0, foot A3 c3, ⟨A3, c3, ?_, hg, ?_, rfl⟩, (Moved.refl g _ w).grown h2 (fun k hk => .inl hk) |>.set_ 0 _, ?_⟩
  · have := hb3.set_ 0 (.slice A3 (es.length + l.length) c3)
    rw [List.length_append]
    exact this
  · rw [List.length_append, ecs_append]
    exact h1.far (fun k hk => foot_far (cs := [.slice A es.length c]) hb3 h1 k hk) _
  · exact h3.imp id .inr

set_option maxRecDepth 100000 in
set_option maxHeartbeats 800000 in
/-- (*log.Log).Add -/
theorem lAdd_any (base g : Nat) (f : Option Nat) (es : List Ent) (x : Ent) (w : World) (h : LogAt w base g f es) (hn : es.length ≤ 1048576) (hB : base ≤ w.heap.size) :
    Calls Try.prog 88 #[.pointer (some ⟨g, 0, none⟩), .agg #[.int .i64 x.t, .string x.s]] w fun e w' => e = .returned (.int .i64 ((addF es x).2 : Int)) ∧ LogMoves w base g f (addF es x).1 w' := by
  have hkA := Blk.new w 73 #[.int .i64 x.t, .string x.s]
  have hb1 := (Below.refl w.heap.size w).alloc (Nat.le_refl _) (.cells #[.int .i64 x.t, .string x.s] 73)
  have h1 := h.on hb1
  have hB1 := Nat.le_trans hB hb1.size
  have HGN := Lib.hid (show w.heap.size ≠ g by have := h.lt; omega)
  clear h
  have e0 : (w.alloc (.cells #[.int .i64 x.t, .string x.s] 73)).cell? ⟨w.heap.size, 0, none⟩ = some (.int .i64 x.t) := by rw [hkA.cell]; rfl
  have e1 : (w.alloc (.cells #[.int .i64 x.t, .string x.s] 73)).cell? ⟨w.heap.size, 1, none⟩ = some (.string x.s) := by rw [hkA.cell]; rfl
  have HL := Lib.hid (lLast_any base g f es _ h1 (by omega))
  have HB1 := Lib.hid hb1
  have H1 := Lib.hid h1
  have HB := Lib.hid hB1
  unfold addF
  clear hkA hb1 hB hB1
  by_cases hlt : x.t < lastT es
  · rw [if_pos hlt]
    generalize lastT es = q at *
    clear h1
    go_enter Try.func88, Try.ntmps88
    go_wp2_with fail
    refine HL.out.mono ?_
    rintro e w1 ⟨rfl, rfl⟩
    go_wp2_with fail
    go_ret
    exact ⟨rfl, LogMoves.behind HB1.out ⟨_, H1.out, Moved.refl _ _ _, .inl rfl⟩⟩
  · rw [if_neg hlt]
    by_cases hfull : 1024 ≤ es.length
    · rw [if_pos hfull]
      have hfull' : (1024 : Int) ≤ (es.length : Int) := by omega
      obtain ⟨A, c, hb, _, _, _⟩ := h1
      have c0 : (w.alloc (.cells #[.int .i64 x.t, .string x.s] 73)).cell? ⟨g, 0, none⟩ = some (.slice A es.length c) := by rw [hb.cell]; rfl
      clear hb hfull
      generalize lastT es = q at *
      go_enter Try.func88, Try.ntmps88
      go_wp2_with fail
      refine HL.out.mono ?_
      rintro e w1 ⟨rfl, rfl⟩
      go_wp2_with fail
      go_ret
      exact ⟨rfl, LogMoves.behind HB1.out ⟨_, H1.out, Moved.refl _ _ _, .inl rfl⟩⟩
    · rw [if_neg hfull]
      have hfull' : ¬ (1024 : Int) ≤ (es.length : Int) := by omega
      obtain ⟨A, c, hb, hg, hf, hff⟩ := h1
      have c0 : (w.alloc (.cells #[.int .i64 x.t, .string x.s] 73)).cell? ⟨g, 0, none⟩ = some (.slice A es.length c) := by rw [hb.cell]; rfl
      obtain ⟨i0, hi0, hz0, hz1, hz2⟩ := info_parts ent_row
      generalize lastT es = q at *
      have HGG := Lib.hid hg
      have HBK := Lib.hid hb
      have HF := Lib.hid hf
      have HFF := Lib.hid hff
      have HES := Lib.hid (show es.length < 1024 by omega)
      clear hb hg hf hff hfull hn
      go_enter Try.func88, Try.ntmps88
      go_wp2_with fail
      generalize w.alloc (.cells #[.int .i64 x.t, .string x.s] 73) = w1 at *
      refine HL.out.mono ?_
      rintro e w2 ⟨rfl, rfl⟩
      go_wp2_with fail
      have hx2 : Sees (w2.alloc (.cells #[.int .i64 x.t, .string x.s] 73)) (w2.alloc (.cells #[.int .i64 x.t, .string x.s] 73)).heap.size (some ⟨w2.heap.size, 0, none⟩) (1 * 2) (ecs [x]) := sees_new w2 #[.int .i64 x.t, .string x.s] 73
      have HX2 := Lib.hid hx2
      have HBA := Lib.hid ((Below.refl w2.heap.size w2).alloc (Nat.le_refl _) (.cells #[.int .i64 x.t, .string x.s] 73))
      have hcA : ∀ o, (w2.alloc o).cell? ⟨g, 0, none⟩ = some (.slice A es.length c) := fun o => by
        rw [World.cell?_alloc_lt w2 o ⟨g, 0, none⟩ HBK.out.lt]
        exact c0
      have hm1 : es.length + 1 ≤ maxLen := by have := HES.out; unfold maxLen; omega
      have hm2 : (es.length + 1) * 24 ≤ 140737488355328 := by have := HES.out; omega
      have HF2 := Lib.hid (HF.out.on HBA.out)
      have HBK2 := Lib.hid (HBK.out.below HBA.out HBK.out.lt)
      clear hx2
      go_region_law (refine step_append_freeN (sz := 2) rfl (.tmp 28) (.tmp 30) 23 rfl base 73 i0 _ 24 sl_ent hi0 hz0 hz1 hz2 rfl (by decide) A es.length c (ecs es) (by simp [Act.eval]) (by exact HF2.out) _ (some ⟨w2.heap.size, 0, none⟩) 1 1 (ecs [x]) (by simp [Act.eval]) (by exact HX2.out) (ecs_one _) hm1 hm2 (by have := HB.out; simp; omega) ?_
                     intro A3 c3 w3 ha3
                     obtain ⟨d0, f0, hlm⟩ := log_appended (n := es.length) (m := 1) (l := [x]) HBK2.out HGG.out rfl rfl HF2.out (ha3.same rfl rfl rfl rfl)
                     have HLM := Lib.hid hlm
                     clear hlm)
      all_goals
        go_wp2_with fail
        go_ret
        have hff := HFF.out
        subst hff
        exact ⟨rfl, LogMoves.behind HB1.out (LogMoves.behind HBA.out HLM.out)⟩
end Go.Proofs.Ytmhgbpgbnfdokaa
