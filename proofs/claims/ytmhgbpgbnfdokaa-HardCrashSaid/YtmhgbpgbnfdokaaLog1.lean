/- The walks of package log: what only reads; and New. -/
import Derived.Test.YtmhgbpgbnfdokaaLogM
import Derived.Test.YtmhgbpgbnfdokaaF1
namespace Go.Proofs.Ytmhgbpgbnfdokaa
open Go.RowKit

theorem ent_row : (Try.prog.info? 73).map (fun i => (i.zero, i.size, i.bytes)) = some (some (.agg #[.int .i64 0, .string ⟨#[]⟩]), 2, 24) := by kernel_rfl
theorem sl_ent : Try.prog.underlying 23 = some (.slice 73) := Try.underlying23

set_option maxRecDepth 100000 in
set_option maxHeartbeats 400000 in
/-- slices.Clone of entries -/
theorem eclone_any (A : Option Addr) (n c : Nat) (es : List Ent) (w : World) (hs : Ents w w.heap.size A es) (hl : es.length = n) (hn : n ≤ 1099511627776) :
    Calls Try.prog 77 #[.slice A n c] w fun e w' => ∃ A' c', e = .returned (.slice A' n c') ∧ FreeN 2 w' w.heap.size 73 A' n c' (ecs es) ∧ Below w.heap.size w w' := by
  obtain ⟨i0, hi0, hz0, hz1, hz2⟩ := info_parts ent_row
  subst hl
  rcases A with _ | a
  · have hn0 : es = [] := by
      cases es with
      | nil => rfl
      | cons e es =>
        obtain ⟨_, _, h1, _⟩ := hs.at_ (j := 0) (by simp)
        cases h1
    subst hn0
    have heq := fun W => Lib.run_eql_slice_nil (P := Try.prog) W 23 73 none 0 c 0 0 sl_ent
    go_enter Try.func77, Try.ntmps77
    go_wp2_with fail
    go_ret
    exact ⟨none, 0, rfl, FreeN.nil _ _ _ _, Below.refl _ _⟩
  · have heq := fun W => Lib.run_eql_slice_nil (P := Try.prog) W 23 73 (some a) es.length c 0 0 sl_ent
    go_enter Try.func77, Try.ntmps77
    have hc1 : 0 + es.length ≤ maxLen := by rw [Nat.zero_add]; exact Nat.le_trans hn (by decide)
    have hc2 : (0 + es.length) * 24 ≤ 140737488355328 := by omega
    have hown : FreeN 2 (w.alloc (.cells #[] 73)) w.heap.size 73 (some ⟨w.heap.size, 0, none⟩) 0 0 [] := FreeN.of_own (World.ownsRow_made w _ 0 (Nat.le_refl _) (by decide) rfl)
    go_wp2_with (at_builtin; refine wpList_append_freeN (sz := 2) _ rfl (.tmp 5) (.tmp 6) _ rfl w.heap.size 73 i0 _ 24 sl_ent hi0 hz0 hz1 hz2 rfl (by omega) (some ⟨w.heap.size, 0, none⟩) 0 0 [] rfl hown w.heap.size (some a) es.length c (ecs es) rfl (Sees.alloc hs (Nat.le_refl _) _) (ecs_one es) hc1 hc2 (by simp) ?_; intro A2 c2 w2 ha2; rw [Nat.zero_add])
    go_ret
    obtain ⟨hf2, hg2, _⟩ := ha2
    rw [Nat.zero_add, List.nil_append] at hf2
    refine ⟨A2, c2, rfl, hf2, ((Below.refl _ _).alloc (Nat.le_refl _) _).grown hg2 (by simp) (fun g hg => ?_)⟩
    simp [foot] at hg

/-- the log that lies in block g; f: the block of its entries that may be written, if any -/
def LogAt (w : World) (base g : Nat) (f : Option Nat) (es : List Ent) : Prop :=
  ∃ A c, Blk w g 131 #[.slice A es.length c] ∧ base ≤ g ∧ FreeN 2 w base 73 A es.length c (ecs es) ∧ f = foot A c
section
variable {w w' : World} {base g : Nat} {f : Option Nat} {es : List Ent}
theorem LogAt.lt (h : LogAt w base g f es) : g < w.heap.size := by
  obtain ⟨A, c, h1, _⟩ := h
  exact h1.lt
theorem LogAt.base_le (h : LogAt w base g f es) : base ≤ g := by
  obtain ⟨A, c, _, h1, _⟩ := h
  exact h1
theorem LogAt.foot_at (h : LogAt w base g f es) : ∀ k, f = some k → base ≤ k ∧ ∃ cur, Blk w k 73 cur := by
  obtain ⟨A, c, _, _, h3, rfl⟩ := h
  exact h3.foot_at
theorem LogAt.keep (h : LogAt w base g f es) (hg : w'.heap[g]? = w.heap[g]?) (hk : ∀ k, f = some k → w'.heap[k]? = w.heap[k]?) : LogAt w' base g f es := by
  obtain ⟨A, c, h1, h2, h3, rfl⟩ := h
  exact ⟨A, c, hg.trans h1, h2, h3.keep hk, rfl⟩
theorem LogAt.on (h : LogAt w base g f es) (hb : Below w.heap.size w w') : LogAt w' base g f es :=
  h.keep (hb.block _ h.lt) (fun k hk => by obtain ⟨_, _, hB⟩ := h.foot_at k hk; exact hb.block _ hB.lt)
theorem LogAt.drew (h : LogAt w base g f es) : LogAt w.drew base g f es := h
theorem LogAt.grown {row : Option Nat} (h : LogAt w base g f es) (hg : w.grownBy w' row) (h1 : some g ≠ row) (h2 : ∀ k, f = some k → some k ≠ row) : LogAt w' base g f es :=
  h.keep (hg.block _ h.lt h1) (fun k hk => by obtain ⟨_, _, hB⟩ := h.foot_at k hk; exact hg.block _ hB.lt (h2 k hk))
theorem LogAt.mono {base' : Nat} (h : LogAt w base g f es) (hb : base' ≤ base) : LogAt w base' g f es := by
  obtain ⟨A, c, h1, h2, h3, rfl⟩ := h
  exact ⟨A, c, h1, by omega, h3.mono hb, rfl⟩
end

set_option maxRecDepth 100000 in
set_option maxHeartbeats 400000 in
/-- log.New -/
theorem lNew_any (A : Option Addr) (n c : Nat) (es : List Ent) (w : World) (hs : Ents w w.heap.size A es) (hl : es.length = n) (hn : n ≤ 1099511627776) :
    Calls Try.prog 52 #[.slice A n c] w fun e w' => ∃ g f, e = .returned (.pointer (some ⟨g, 0, none⟩)) ∧ LogAt w' w.heap.size g f es ∧ Below w.heap.size w w' := by
  have HB := Lib.hid (eclone_any A n c es w hs hl hn)
  clear hs
  go_enter Try.func52, Try.ntmps52
  go_wp2_with (go_at_call 77; refine HB.out.mono ?_; rintro e w1 ⟨A1, c1, rfl, hf1, hb1⟩)
  go_ret
  have hb2 := hb1.alloc hb1.size (.cells #[.slice A1 n c1] 131)
  refine ⟨w1.heap.size, foot A1 c1, rfl, ⟨A1, c1, by rw [hl]; exact Blk.new w1 _ _, hb1.size, by rw [hl]; exact hf1.on ((Below.refl _ _).alloc (Nat.le_refl _) _), rfl⟩, hb2⟩

set_option maxRecDepth 100000 in
set_option maxHeartbeats 800000 in
/-- (*log.Log).Term -/
theorem lTerm_any (base g : Nat) (f : Option Nat) (es : List Ent) (i : Int) (w : World) (h : LogAt w base g f es) (hn : es.length ≤ 1099511627776) :
    Calls Try.prog 92 #[.pointer (some ⟨g, 0, none⟩), .int .i64 i] w fun e w' => e = .returned (.tuple #[.int .i64 (termF es i).1, .bool (termF es i).2]) ∧ w' = w := by
  obtain ⟨A, c, hb, _, hf, _⟩ := h
  have c0 : w.cell? ⟨g, 0, none⟩ = some (.slice A es.length c) := by rw [hb.cell]; rfl
  have hs : Ents w w.heap.size A es := hf.sees
  clear hb hf
  by_cases h1 : i < 0
  · rw [termF_out (.inl h1)]
    clear hs
    go_enter Try.func92, Try.ntmps92
    go_wp2_with fail
    go_ret2
    exact ⟨rfl, rfl⟩
  · by_cases h2 : (es.length : Int) < i
    · rw [termF_out (.inr h2)]
      clear hs
      go_enter Try.func92, Try.ntmps92
      go_wp2_with fail
      go_ret2
      exact ⟨rfl, rfl⟩
    · by_cases h3 : i = 0
      · subst h3
        rw [termF_zero]
        clear hs
        go_enter Try.func92, Try.ntmps92
        go_wp2_with fail
        go_ret2
        exact ⟨rfl, rfl⟩
      · obtain ⟨j, hj⟩ : ∃ j : Nat, i = (j : Int) + 1 := ⟨(i - 1).toNat, by omega⟩
        subst hj
        have hjl : j < es.length := by omega
        rw [termF_at hjl]
        obtain ⟨b, off, rfl, _, d0, _⟩ := hs.at_ hjl
        have hj1 : (j : Int) + 1 - 1 = (j : Int) := by omega
        have hw : wrap64 (j : Int) = (j : Int) := by unfold wrap64; omega
        have hjl' : (j : Int) < (es.length : Int) := by omega
        clear hs
        generalize es[j] = x at *
        generalize es.length = n at *
        clear hn
        go_enter Try.func92, Try.ntmps92
        go_wp2_with fail
        go_ret2
        exact ⟨rfl, rfl⟩

set_option maxRecDepth 100000 in
theorem lTerm_nil (i : Int) (w : World) :
    Calls Try.prog 92 #[.pointer none, .int .i64 i] w fun e w' => e = .returned (.tuple #[.int .i64 0, .bool false]) ∧ w' = w := by
  go_enter Try.func92, Try.ntmps92
  go_wp2_with fail
  go_ret2
  exact ⟨rfl, rfl⟩

set_option maxRecDepth 100000 in
set_option maxHeartbeats 400000 in
/-- (*log.Log).Last -/
theorem lLast_any (base g : Nat) (f : Option Nat) (es : List Ent) (w : World) (h : LogAt w base g f es) (hn : es.length ≤ 1099511627776) :
    Calls Try.prog 62 #[.pointer (some ⟨g, 0, none⟩)] w fun e w' => e = .returned (.tuple #[.int .i64 (es.length : Int), .int .i64 (lastT es)]) ∧ w' = w := by
  have HT := Lib.hid (lTerm_any base g f es es.length w h hn)
  obtain ⟨A, c, hb, _⟩ := h
  have c0 : w.cell? ⟨g, 0, none⟩ = some (.slice A es.length c) := by rw [hb.cell]; rfl
  clear hb
  go_enter Try.func62, Try.ntmps62
  go_wp2_with fail
  refine HT.out.mono ?_
  rintro e w1 ⟨rfl, rfl⟩
  go_wp2_with fail
  go_ret2
  exact ⟨rfl, rfl⟩
set_option maxRecDepth 100000 in
theorem lLast_nil (w : World) :
    Calls Try.prog 62 #[.pointer none] w fun e w' => e = .returned (.tuple #[.int .i64 0, .int .i64 0]) ∧ w' = w := by
  go_enter Try.func62, Try.ntmps62
  go_wp2_with fail
  go_ret2
  exact ⟨rfl, rfl⟩

set_option maxRecDepth 100000 in
set_option maxHeartbeats 400000 in
/-- (*log.Log).All -/
theorem lAll_any (base g : Nat) (f : Option Nat) (es : List Ent) (w : World) (h : LogAt w base g f es) (hn : es.length ≤ 1099511627776) :
    Calls Try.prog 63 #[.pointer (some ⟨g, 0, none⟩)] w fun e w' => ∃ A c, e = .returned (.slice A es.length c) ∧ FreeN 2 w' w.heap.size 73 A es.length c (ecs es) ∧ Below w.heap.size w w' := by
  obtain ⟨A, c, hb, _, hf, _⟩ := h
  have c0 : w.cell? ⟨g, 0, none⟩ = some (.slice A es.length c) := by rw [hb.cell]; rfl
  have HB := Lib.hid (eclone_any A es.length c es w hf.sees rfl hn)
  clear hb hf
  go_enter Try.func63, Try.ntmps63
  go_wp2_with (go_at_call 77; refine HB.out.mono ?_; rintro e w1 ⟨A1, c1, rfl, hf1, hb1⟩)
  go_ret
  exact ⟨A1, c1, rfl, hf1, hb1⟩
set_option maxRecDepth 100000 in
theorem lAll_nil (w : World) :
    Calls Try.prog 63 #[.pointer none] w fun e w' => e = .returned (.slice none 0 0) ∧ w' = w := by
  go_enter Try.func63, Try.ntmps63
  go_wp2_with fail
  go_ret
  exact ⟨rfl, rfl⟩

set_option maxRecDepth 100000 in
set_option maxHeartbeats 400000 in
/-- (*log.Log).Younger -/
theorem lYounger_any (base g : Nat) (f : Option Nat) (es : List Ent) (i t : Int) (w : World) (h : LogAt w base g f es) (hn : es.length ≤ 1099511627776) :
    Calls Try.prog 82 #[.pointer (some ⟨g, 0, none⟩), .int .i64 i, .int .i64 t] w fun e w' => e = .returned (.bool (youngF es i t)) ∧ w' = w := by
  have HT := Lib.hid (lLast_any base g f es w h hn)
  clear h
  unfold youngF
  generalize lastT es = q at *
  generalize (es.length : Int) = n at *
  by_cases h1 : q < t
  · simp only [decide_eq_true h1, Bool.true_or]
    go_enter Try.func82, Try.ntmps82
    go_wp2_with fail
    refine HT.out.mono ?_
    rintro e w1 ⟨rfl, rfl⟩
    go_wp2_with fail
    go_ret
    exact ⟨rfl, rfl⟩
  · simp only [decide_eq_false h1, Bool.false_or]
    by_cases h2 : t = q
    · subst h2
      simp only [decide_true, Bool.true_and]
      go_enter Try.func82, Try.ntmps82
      go_wp2_with fail
      refine HT.out.mono ?_
      rintro e w1 ⟨rfl, rfl⟩
      go_wp2_with fail
      go_ret
      exact ⟨rfl, rfl⟩
    · have h2' : (t == q) = false := by rw [beq_eq_false_iff_ne]; exact h2
      simp only [decide_eq_false h2, Bool.false_and]
      go_enter Try.func82, Try.ntmps82
      go_wp2_with fail
      refine HT.out.mono ?_
      rintro e w1 ⟨rfl, rfl⟩
      go_wp2_with fail
      go_ret
      exact ⟨by show Ending.returned (.bool (decide (q < t))) = _; rw [decide_eq_false (show ¬ q < t by omega)], rfl⟩
set_option maxRecDepth 100000 in
theorem lYounger_nil (i t : Int) (w : World) :
    Calls Try.prog 82 #[.pointer none, .int .i64 i, .int .i64 t] w fun e w' => e = .returned (.bool false) ∧ w' = w := by
  go_enter Try.func82, Try.ntmps82
  go_wp2_with fail
  go_ret
  exact ⟨rfl, rfl⟩
end Go.Proofs.Ytmhgbpgbnfdokaa
