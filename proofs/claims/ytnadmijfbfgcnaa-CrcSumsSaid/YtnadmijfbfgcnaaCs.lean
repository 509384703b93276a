/- CrcSums: whatever bytes come in how many pieces, each sum is the document's. For every input, without a condition. -/
import Derived.Test.YtnadmijfbfgcnaaRows
import Derived.Test.YtnadmijfbfgcnaaFix2
import Derived.Test.YtnadmijfbfgcnaaOpen
import Derived.ProofKit
import Derived.OpenShut
import Derived.SizedLaws
namespace Go.Proofs.Ytnadmijfbfgcnaa.crcSums
open Go.ChangeShapes Go.WideShapes Go.ChangeAt Go.RowKit Go.Deep
set_option linter.unusedVariables false

theorem own : ownKnob Try.prog.godebug = none := by kernel_rfl
theorem laidOut : laidOutB Try.prog = true := by kernel_rfl
theorem u8_cells : Try.prog.cellsOf 5 = 1 := by kernel_rfl
theorem u8_bytes : Try.prog.bytesOf 5 = 1 := by kernel_rfl
theorem row_cells : Try.prog.cellsOf 23 = 1 := by kernel_rfl

/-! ### the argument -/
/-- slices of bytes, read out of memory -/
def Many (w : World) (B : Nat) (A : Option Addr) (n : Nat) (f : Nat → Option Addr × Nat × Nat × List UInt8) : Prop :=
  (∀ j, j < n → Sees w B (f j).1 (f j).2.1 (cbs (f j).2.2.2) ∧ (f j).2.1 ≤ 140737488351232) ∧
  (0 < n → ∃ b off, A = some ⟨b, off, none⟩ ∧ b < B ∧ ∀ j, j < n → w.cell? ⟨b, off + j, none⟩ = some (.slice (f j).1 (f j).2.1 (f j).2.2.1))

section
variable {H : Type} {enc : TypeId × Value → H} {w : World} {base : Nat} {spare : Nat → Bool} {held : Bool}
theorem open_elem {fuel : Nat} {v : Value} {d : DataW H} {ps : List MemPlace} (h : DataW.trod enc Try.prog w base spare held fuel 23 [v] = some (d, ps)) (hsz : ∀ n ∈ d.weights Try.prog 23, n ≤ reachBytes) :
    ∃ r : Option Addr × Nat × Nat × List UInt8, v = .slice r.1 r.2.1 r.2.2.1 ∧ Sees w w.heap.size r.1 r.2.1 (cbs r.2.2.2) ∧ r.2.1 ≤ 140737488351232 := by
  rcases open_ints Try.underlying23 Try.underlying5 u8_cells h with ⟨hcs, _⟩ | ⟨x, l, c, zs, hcs, _, hl, hm, hz, hx, _⟩
  · simp at hcs
    exact ⟨(none, 0, 0, []), hcs, Sees.none_ _ _ _, by simp⟩
  · simp at hcs
    subst hcs
    obtain ⟨_, _, bs, hb⟩ := open_bytes (a := some x) (len := l) (cap := c) Try.underlying23 Try.underlying5 u8_cells (by simpa [Value.cells] using h)
    refine ⟨(some x, l, c, bs), rfl, hb, ?_⟩
    injection hx with hx1 hx2
    subst hx1
    have := hsz (((lits .u8 (zs.take l)).length + (lits .u8 (zs.drop l)).length) * Try.prog.bytesOf 5) (by simp only [DataW.weights, Try.underlying23]; exact List.mem_cons_self)
    rw [u8_bytes] at this
    simp only [lits, List.length_map, List.length_take, List.length_drop, reachBytes] at this
    have hle : l ≤ zs.length := by rw [hz]; split <;> omega
    show l ≤ _
    omega

theorem weights_all {e : TypeId} {P : Program} : ∀ {ds : List (DataW H)} {d : DataW H}, d ∈ ds → ∀ n ∈ d.weights P e, n ∈ DataW.weightsAll P e ds := by
  intro ds d hd n hn
  induction ds with
  | nil => cases hd
  | cons d0 ds ih =>
    simp only [DataW.weightsAll, List.mem_append]
    rcases List.mem_cons.1 hd with rfl | h
    · exact .inl hn
    · exact .inr (ih h)

theorem open_many {fuel : Nat} {a : Option Addr} {len cap : Nat} {d : DataW H} {ps : List MemPlace}
    (h : DataW.trod enc Try.prog w base spare held fuel 43 (Value.slice a len cap).cells.toList = some (d, ps)) (hsz : ∀ n ∈ d.weights Try.prog 43, n ≤ reachBytes) :
    len ≤ maxLen ∧ ∃ f, Many w w.heap.size a len f := by
  rcases open_slice1 Try.underlying43 row_cells h with ⟨hcs, _⟩ | ⟨x, l, c, m, n, V, D, Pl, hcs, _, hl, hm, hmm, hx, hi⟩
  · simp [Value.cells] at hcs
    obtain ⟨rfl, rfl, rfl⟩ := hcs
    exact ⟨by decide, fun _ => (none, 0, 0, []), fun j hj => absurd hj (by omega), fun hn => absurd hn (by omega)⟩
  · simp [Value.cells] at hcs
    obtain ⟨rfl, rfl, rfl⟩ := hcs
    injection hx with hx1 hx2
    subst hx1
    have hle : len ≤ m := by rw [hmm]; split <;> omega
    have hone : ∀ i, i < len → ∃ r : Option Addr × Nat × Nat × List UInt8, w.cell? (x.add i) = some (.slice r.1 r.2.1 r.2.2.1) ∧ Sees w w.heap.size r.1 r.2.1 (cbs r.2.2.2) ∧ r.2.1 ≤ 140737488351232 := by
      intro i hil
      obtain ⟨hc, ht⟩ := hi i (by omega)
      obtain ⟨r, hv, h1, h2⟩ := open_elem ht (fun q hq => hsz q (by
        simp only [DataW.weights, Try.underlying43, List.mem_cons, List.mem_append]
        exact .inr (.inl (weights_all (List.mem_map.2 ⟨i, List.mem_range.2 hil, rfl⟩) q hq))))
      exact ⟨r, by rw [hc, hv], h1, h2⟩
    refine ⟨Nat.le_trans hl hm, fun i => if h : i < len then (hone i h).choose else (none, 0, 0, []), ?_, ?_⟩
    · intro j hj
      simp only [dif_pos hj]
      exact (hone j hj).choose_spec.2
    · intro hn
      obtain ⟨b, off, spot⟩ := x
      have hspot : spot = none := by
        have := (hone 0 hn).choose_spec.1
        simpa [Addr.add] using World.cell?_spot this
      subst hspot
      refine ⟨b, off, rfl, World.block_lt_of_cell? w _ ((hone 0 hn).choose_spec.1) |> (fun h => by simpa [Addr.add] using h), fun j hj => ?_⟩
      simp only [dif_pos hj]
      exact (congrArg w.cell? (Go.WideShapes.add_plain _ _ _)).symm.trans (hone j hj).choose_spec.1
end

/-! ### what lies one behind the other -/
def cat (f : Nat → Option Addr × Nat × Nat × List UInt8) : Nat → List UInt8
  | 0 => []
  | k + 1 => cat f k ++ (f k).2.2.2
theorem cat_mono (f : Nat → Option Addr × Nat × Nat × List UInt8) {k n : Nat} (h : k ≤ n) : (cat f k).length ≤ (cat f n).length := by
  induction n with
  | zero => rw [show k = 0 by omega]; exact Nat.le_refl _
  | succ m ih =>
    rcases Nat.lt_or_ge k (m + 1) with h1 | h1
    · have := ih (by omega)
      simp only [cat, List.length_append]
      omega
    · rw [show k = m + 1 by omega]
      exact Nat.le_refl _
/-- the row that is grown lies above its base -/
theorem own_block {w : World} {base : Nat} {e : TypeId} {v : Value} {n : Nat} {xs : List Value} (h : w.ownsRow base e 1 v n xs) (q : Nat) (hq : v.ownBlock = some q) : base ≤ q := by
  rcases h.2 with ⟨rfl, _⟩ | ⟨b, cap, cur, rfl, hb, _⟩
  · simp [Value.ownBlock] at hq
  · simp [Value.ownBlock] at hq
    omega

/-- a sum's four bytes are handed back -/
def Four (w : World) (n : Nat) (e : Ending) (w' : World) : Prop := ∃ g, e = .returned (.slice (some ⟨g, 0, none⟩) 4 4) ∧ Sees w' w'.heap.size (some ⟨g, 0, none⟩) 4 (cbs (le4 n)) ∧ Below w.heap.size w w'
theorem bytes_four (n : Nat) (w : World) (hn : n < 4294967296) : Calls Try.prog 33 #[.int .u32 (n : Int)] w (Four w n) :=
  (bytes_any n w hn).mono fun e w' ⟨he, hw⟩ => ⟨w.heap.size, he, by subst hw; exact le4_sees w n, by subst hw; exact (Below.refl _ _).alloc (Nat.le_refl _) _⟩
theorem refBytes_four (n : Nat) (w : World) (hn : n < 4294967296) : Calls Try.prog 34 #[.int .u32 (n : Int)] w (Four w n) :=
  (refBytes_any n w hn).mono fun e w' ⟨he, hw⟩ => ⟨w.heap.size, he, by subst hw; exact le4_sees w n, by subst hw; exact (Below.refl _ _).alloc (Nat.le_refl _) _⟩

set_option maxRecDepth 100000 in
set_option maxHeartbeats 1600000 in
theorem walk (A : Option Addr) (n c : Nat) (f : Nat → Option Addr × Nat × Nat × List UInt8) (w : World) (ha : Many w w.heap.size A n f) (hn : n ≤ maxLen) :
    Calls Try.prog 6 #[.slice A n c] w fun e w' => e = .returned (.bool true) ∧ Below w.heap.size w w' := by
  unfold maxLen at hn
  have HA := Lib.hid ha
  clear ha
  obtain ⟨i0, hi0, hy0, hy1, hy2⟩ := info_parts u8_row
  go_enter Try.func6, Try.ntmps6
  go_wp2_with fail
  refine (fixed2_any _).mono ?_
  rintro e w1 ⟨rfl, hb1⟩
  go_wp2_with fail
  go_loop [3, 15] (fun u i => ∃ k : Nat, k ≤ n ∧ i = .int .i64 k ∧ u = .int .i64 ((cat f k).length : Int) ∧ (cat f k).length ≤ 600) (fun _ i => n - (intOf i).toNat)
  case atStart => exact ⟨0, Nat.zero_le _, rfl, rfl, by simp [cat]⟩
  case round =>
    obtain ⟨k, hk, rfl, rfl, htot⟩ := hrel
    by_cases hlt : k < n
    · obtain ⟨hse, hle⟩ := HA.out.1 k hlt
      obtain ⟨b, off, rfl, hbw, hcells⟩ := HA.out.2 (by omega)
      have c0 := (hb1.cell (p := ⟨b, off + k, none⟩) hbw).trans (hcells k hlt)
      have hlen : (f k).2.2.2.length = (f k).2.1 := by have := hse.1; simpa using this
      have hnext : (cat f (k + 1)).length = (cat f k).length + (f k).2.1 := by simp only [cat, List.length_append, hlen]
      clear hcells hlen hse
      have HN := Lib.hid hnext
      clear hnext
      generalize (f k).2.1 = m at *
      generalize hTe : (cat f k).length = T at *
      by_cases hgt : 600 < T + m
      · have hgt' : (600 : Int) < (T : Int) + (m : Int) := by omega
        have HH := Lib.hid hgt
        have HT := Lib.hid hTe
        clear hgt hTe
        go_wp2_with fail
        go_ret
        exact ⟨rfl, hb1⟩
      · have hgt' : ¬ (600 : Int) < (T : Int) + (m : Int) := by omega
        have HH := Lib.hid hgt
        have HT := Lib.hid hTe
        clear hgt hTe
        go_wp2_with fail
        go_round
        case rel => exact ⟨k + 1, by omega, by go_num, by rw [HN.out]; go_num, by rw [HN.out]; have := HH.out; omega⟩
        case measure => simp [intOf]; omega
    · have hkn : k = n := by omega
      subst hkn
      have HT := Lib.hid htot
      clear htot
      by_cases hbig : 100 < k
      · have hbig' : (100 : Int) < (k : Int) := by omega
        go_wp2_with fail
        go_ret
        exact ⟨rfl, hb1⟩
      · have hbig' : ¬ (100 : Int) < (k : Int) := by omega
        go_wp2_with fail
        refine (new_any w1).mono ?_
        rintro e wN ⟨rfl, htN, hbN⟩
        have hbw := bthen hb1 hbN
        have hg0 := hb1.size
        have hgB := htN.lt
        generalize w1.heap.size = g at *
        have h00 : crcOf [] = 0 := by decide
        have hB0 : w.heap.size ≤ wN.heap.size := hbw.size
        obtain ⟨B, hB⟩ : ∃ B, B = wN.heap.size := ⟨_, rfl⟩
        have hown0 : wN.ownsRow B 5 1 (.slice none 0 0) 0 [] := ⟨rfl, .inl ⟨rfl, rfl⟩⟩
        have hBN : B ≤ wN.heap.size := by omega
        rw [← hB] at hgB hB0
        go_wp2_with fail
        go_loopw [7, 8, 32] (fun v s i wr => ∃ k' : Nat, k' ≤ k ∧ i = .int .i64 k' ∧ s = .int .u32 (crcOf (cat f k') : Int) ∧ wr.ownsRow B 5 1 v (cat f k').length (cbs (cat f k')) ∧ (∃ m, Tbl wr g m) ∧ Below w.heap.size w wr ∧ B ≤ wr.heap.size) (fun _ _ i _ => k - (intOf i).toNat)
        case atStart => exact ⟨0, Nat.zero_le _, rfl, by rw [show cat f 0 = [] from rfl, h00]; rfl, hown0, ⟨_, htN⟩, hbw, hBN⟩
        case round =>
          obtain ⟨j, hj, rfl, rfl, hown, ⟨made, htb⟩, hbel, hBr⟩ := hrel
          by_cases hlt2 : j < k
          · obtain ⟨hse, hle⟩ := HA.out.1 j hlt2
            obtain ⟨b, off, rfl, hbb, hcells⟩ := HA.out.2 (by omega)
            have c0 := (hbel.cell (p := ⟨b, off + j, none⟩) hbb).trans (hcells j hlt2)
            have hcat : cat f (j + 1) = cat f j ++ (f j).2.2.2 := rfl
            have hmono := cat_mono f (show j + 1 ≤ k by omega)
            have hsr := hse.below hbel
            have hll : (f j).2.2.2.length = (f j).2.1 := by have := hse.1; simpa using this
            rw [hcat, List.length_append, hll] at hmono
            have hT := HT.out
            have HCAT := Lib.hid hcat
            have HLL := Lib.hid hll
            clear hcells hse hcat hll
            have hlr := crc_lt (cat f j)
            generalize (f j).1 = Aj at *
            generalize (f j).2.1 = m at *
            generalize (f j).2.2.1 = cj at *
            generalize (f j).2.2.2 = l at *
            generalize cat f j = L at *
            generalize (cat f k).length = tot at *
            have hc1 : L.length + m ≤ maxLen := by unfold maxLen; omega
            have hc2 : (L.length + m) * 1 ≤ 140737488355328 := by omega
            have hm63 : m ≤ 9223372036854775807 := by omega
            have HLR := Lib.hid hlr
            have hgz : w.heap.size ≤ g := hg0
            clear hlr hmono hT hle
            go_wp2_with (first
              | (at_builtin; refine wpList_append_sees _ rfl (.tmp 36) (.tmp 37) _ rfl B 5 i0 _ 1 sl_u8 hi0 hy0 hy1 hy2 rfl u7 L.length (cbs L) rfl hown w.heap.size Aj m cj (cbs l) rfl hsr (cbs_one l) hc1 hc2 hBr ?_
                 intro v2 w2 hown2 hg2 hat2
                 obtain ⟨A2, c2, rfl, hn2, hm2⟩ := own_form hown2)
              | fail)
            have hoB := own_block hown
            have hoB2 := own_block hown2
            have htb2 := htb.grown hg2 (fun e => by have := hoB g e.symm; omega)
            have hbel2 := hbel.grown hg2 hbel.size (fun q e => by have := hoB q e; omega)
            have hsr2 := hsr.grown hg2 hbel.size (fun q e => by have := hoB q e; omega)
            have hz2 := hg2.size
            have hzz := hbel2.size
            have hne2 : (Value.slice A2 (L.length + m) c2).ownBlock = none ∨ (Value.slice A2 (L.length + m) c2).ownBlock ≠ some g := by
              cases e : (Value.slice A2 (L.length + m) c2).ownBlock with
              | none => exact .inl rfl
              | some q => exact .inr (fun h => by injection h with h; have := hoB2 q e; omega)
            clear hoB hoB2 hg2 hat2 hown hsr htb hbel
            refine (add_any g made (crcOf L) Aj m cj l w2 htb2 HLR.out (apart_low hsr2 hgz hzz) hm63).mono ?_
            rintro e w3 ⟨he, hask⟩
            rw [crc_append] at he
            subst he
            have htb3 := hask.tbl
            have hown3 := hown2.kept hask.2 hne2
            have hbel3 := below_gb hbel2 hask.2 hg0 hzz
            have hz3 := hask.2.size
            have hs3 := Sees.of_own hown3
            rw [← cbs_append] at hs3
            clear htb2 hown2 hsr2 hbel2 hask hne2
            go_wp2_with fail
            refine (refOf_any A2 (L.length + m) c2 (L ++ l) _ w3 hs3 (by unfold maxLen at hc1; omega)).mono ?_
            rintro e w3 ⟨rfl, rfl⟩
            go_wp2_with fail
            refine (made_any g true w3 htb3).mono ?_
            rintro e w3 ⟨rfl, rfl⟩
            go_wp2_with fail
            go_roundw
            case rel => exact ⟨j + 1, by omega, by go_num, by rw [HCAT.out], by rw [HCAT.out, List.length_append, HLL.out, cbs_append]; exact hown3, ⟨true, htb3⟩, hbel3, by omega⟩
            case measure => simp [intOf]; omega
          · have hjk : j = k := by omega
            subst hjk
            have hT := HT.out
            have HLT := Lib.hid (crc_lt (cat f j))
            have HB4 := Lib.hid (fun W => bytes_four (crcOf (cat f j)) W (crc_lt _))
            have HR4 := Lib.hid (fun W => refBytes_four (crcOf (cat f j)) W (crc_lt _))
            have hbeq : (le4 (crcOf (cat f j)) == le4 (crcOf (cat f j))) = true := beq_self_eq_true _
            obtain ⟨A2, c2, rfl, hn2, hm2⟩ := own_form hown
            generalize cat f j = L at *
            have hN63 : L.length ≤ 9223372036854775807 := by omega
            have hoB := own_block hown
            have hne : (Value.slice A2 L.length c2).ownBlock = none ∨ (Value.slice A2 L.length c2).ownBlock ≠ some g := by
              cases e : (Value.slice A2 L.length c2).ownBlock with
              | none => exact .inl rfl
              | some q => exact .inr (fun h => by injection h with h; have := hoB q e; omega)
            have hs := Sees.of_own hown
            have hownD : wr.drew.ownsRow B 5 1 (.slice A2 L.length c2) L.length (cbs L) := hown
            have htbD : Tbl wr.drew g made := htb
            have hap := apart_own (m := 0) hownD htbD
            have hzr := hbel.size
            have hbD := hbel.drew
            generalize L.length = N at *
            have HOWN := Lib.hid hownD
            clear hown hownD htb hoB HA hb1 hbN htN hbw hT HT HLT h00
            go_wp2_with fail
            have tok := True.intro
            go_region_with (first
              | (go_at_call 31; refine (of_any A2 N c2 L _ _ hs.drew hN63).mono ?_; rintro e w2 ⟨rfl, rfl⟩)
              | (go_at_call 29; refine (refOf_any A2 N c2 L _ _ hs.drew hN63).mono ?_; rintro e w2 ⟨rfl, rfl⟩)
              | (go_at_call 32; refine (sum_any g made A2 N c2 L _ htbD hap hN63).mono ?_; rintro e w3 ⟨rfl, hask⟩; have hs3 := Sees.of_own (HOWN.out.kept hask.2 hne); have hb3 := below_gb hbD hask.2 hg0 (by exact hzr))
              | (go_at_call 33; refine (HB4.out _).mono ?_; rintro e w4 ⟨g4, rfl, hs4, hb4⟩; have hc4 := conv_sees' w4 _ _ 4 4 _ hs4)
              | (go_at_call 34; have tok2 := tok; clear tok; refine (HR4.out _).mono ?_; rintro e w5 ⟨g5, rfl, hs5, hb5⟩; have hc5 := conv_sees' w5 _ _ 4 4 _ (hs4.on hb5); have hc5' := conv_sees' w5 _ _ 4 4 _ hs5)
              | (go_at_call 34; clear tok2; refine (HR4.out _).mono ?_; rintro e w6 ⟨g6, rfl, hs6, hb6⟩)
              | (go_at_call 35; refine (check_any A2 (some ⟨g6, 0, none⟩) N c2 4 4 L (le4 (crcOf L)) _ _ _ (((hs3.on hb4).on hb5).on hb6) (Nat.le_refl _) hs6 (Nat.le_refl _) hN63).mono ?_; rintro e w7 ⟨he7, hb7⟩; rw [hbeq] at he7; subst he7))
            all_goals
              go_wp2_with fail
              go_ret
              exact ⟨rfl, bthen (bthen (bthen (bthen hb3 hb4) hb5) hb6) hb7⟩
end Go.Proofs.Ytnadmijfbfgcnaa.crcSums
