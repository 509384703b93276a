/- CrcTurned: bytes of which one is another one have another sum; so have those whose sum is another one. For every input, without a condition. -/
import Derived.Test.YtnadmijfbfgcnaaRows
import Derived.Test.YtnadmijfbfgcnaaFix2
import Derived.Test.YtnadmijfbfgcnaaOpen
import Derived.ProofKit
import Derived.OpenShut
namespace Go.Proofs.Ytnadmijfbfgcnaa.crcTurned
open Go.ChangeShapes Go.WideShapes Go.ChangeAt Go.RowKit
set_option linter.unusedVariables false

theorem own : ownKnob Try.prog.godebug = none := by kernel_rfl
theorem laidOut : laidOutB Try.prog = true := by kernel_rfl
theorem u8_cells : Try.prog.cellsOf 5 = 1 := by kernel_rfl

/-- a row that holds something lies in a block of its own -/
theorem own_pos {w : World} {base n : Nat} {e : TypeId} {v : Value} {xs : List Value} (h : w.ownsRow base e 1 v n xs) (hn : 0 < n) :
    ∃ g cap cur, v = .slice (some ⟨g, 0, none⟩) n cap ∧ base ≤ g ∧ Blk w g e cur ∧ n ≤ cap ∧ cap ≤ maxLen ∧ cur.size = cap := by
  rcases h.2 with ⟨_, h0⟩ | ⟨g, cap, cur, hv, hb, hg, h1, h2, h3, _⟩
  · omega
  · exact ⟨g, cap, cur, hv, hb, hg, h1, h2, by omega⟩
/-- a byte of a row is stored -/
theorem sees_put {w : World} {B b off n k : Nat} {l : List UInt8} (h : Sees w B (some ⟨b, off, none⟩) n (cbs l)) (hk : k < n) (y : UInt8) :
    Sees (w.setCell ⟨b, off + k, none⟩ (cb y)) B (some ⟨b, off, none⟩) n (cbs (l.set k y)) := by
  refine ⟨by have := h.1; simp [cbs] at this ⊢; exact this, fun hn => ?_⟩
  obtain ⟨b', off', hA, hb, hc⟩ := h.2 hn
  injection hA with hA
  injection hA with h1 h2
  subst h1
  subst h2
  refine ⟨b, off, rfl, hb, fun j u hu => ?_⟩
  have hl : l.length = n := by have := h.1; simpa using this
  rw [cbs_get, List.getElem?_set] at hu
  by_cases e : k = j
  · subst e
    rw [if_pos rfl, if_pos (by omega)] at hu
    simp only [Option.map_some, Option.some.injEq] at hu
    subst hu
    exact World.cell?_setCell_same w _ _ (hc k (cb l[k]) (by rw [cbs_get, List.getElem?_eq_getElem (by omega)]; rfl))
  · rw [if_neg e, ← cbs_get] at hu
    rw [World.cell?_setCell_other _ _ _ _ (by intro h; injection h; omega)]
    exact hc j u hu
theorem xor_cb (x y : UInt8) : bits BinOp.xor IntKind.u8 (x.toNat : Int) (y.toNat : Int) = ((x ^^^ y).toNat : Int) := by
  rw [u8_xor_nat _ _ (UInt8.toNat_lt x) (UInt8.toNat_lt y), UInt8.toNat_xor]
theorem xor_ne (x y : UInt8) (h : y ≠ 0) : x ^^^ y ≠ x := by
  intro e
  have := congrArg (x ^^^ ·) e
  simp only [← UInt8.xor_assoc, UInt8.xor_self, UInt8.zero_xor] at this
  exact h this
theorem set_ne (l : List UInt8) (k : Nat) (y : UInt8) (hk : k < l.length) (h : y ≠ l[k]) : l.set k y ≠ l := by
  intro e
  have := congrArg (fun l => l[k]?) e
  simp [hk] at this
  exact h this
theorem crc_set (l : List UInt8) (k : Nat) (y : UInt8) (hk : k < l.length) (h : y ≠ l[k]) : crcOf (l.set k y) ≠ crcOf l := by
  have e1 : l = l.take k ++ l[k] :: l.drop (k + 1) := by rw [← List.drop_eq_getElem_cons hk, List.take_append_drop]
  have e2 : l.set k y = l.take k ++ y :: l.drop (k + 1) := List.set_eq_take_append_cons_drop.trans (by rw [if_pos hk])
  rw [e2]
  conv => rhs; rw [e1]
  exact crc_turned _ _ _ _ h

theorem at_of (t : Int) (n : Nat) (h0 : 0 < n) (hn : n ≤ 600) : ∃ k : Nat, k < n ∧ wrap64 ((IntKind.u64.wrap t).tmod (n : Int)) = (k : Int) := by
  have e : IntKind.u64.wrap t = t % 18446744073709551616 := by simp [IntKind.wrap, IntKind.bits, IntKind.signed]
  have h1 : 0 ≤ IntKind.u64.wrap t := by rw [e]; exact Int.emod_nonneg _ (by decide)
  generalize IntKind.u64.wrap t = z at h1
  have h2 : z.tmod (n : Int) = z % (n : Int) := Int.tmod_eq_emod_of_nonneg h1
  have h3 : 0 ≤ z % (n : Int) := Int.emod_nonneg _ (by omega)
  have h4 : z % (n : Int) < (n : Int) := Int.emod_lt_of_pos _ (by omega)
  rw [h2]
  generalize z % (n : Int) = y at h3 h4
  refine ⟨y.toNat, by omega, ?_⟩
  unfold wrap64
  omega

set_option maxRecDepth 100000 in
set_option maxHeartbeats 1600000 in
theorem walk (A : Option Addr) (n c : Nat) (l : List UInt8) (t : Int) (by_ : UInt8) (w : World) (hs : Sees w w.heap.size A n (cbs l)) (hn : n ≤ maxLen) :
    Calls Try.prog 7 #[.slice A n c, .int .i64 t, .int .u8 (by_.toNat : Int)] w fun e w' => e = .returned (.bool true) ∧ Below w.heap.size w w' := by
  unfold maxLen at hn
  by_cases hz : 600 < n ∨ n = 0 ∨ by_ = 0
  · by_cases hz1 : 600 < n
    · have hz2 : (600 : Int) < (n : Int) := by omega
      go_enter Try.func7, Try.ntmps7
      go_wp2_with fail
      refine (fixed2_any _).mono ?_
      rintro e w1 ⟨rfl, hb1⟩
      go_wp2_with fail
      go_ret
      exact ⟨rfl, hb1⟩
    · have hz2 : ¬ (600 : Int) < (n : Int) := by omega
      by_cases hz3 : n = 0
      · subst hz3
        go_enter Try.func7, Try.ntmps7
        go_wp2_with fail
        refine (fixed2_any _).mono ?_
        rintro e w1 ⟨rfl, hb1⟩
        go_wp2_with fail
        go_ret
        exact ⟨rfl, hb1⟩
      · have hz4 : ((n : Int) == 0) = false := by rw [beq_eq_false_iff_ne]; omega
        have hz5 : by_ = 0 := by rcases hz with h | h | h <;> first | exact h | exact absurd h (by assumption)
        subst hz5
        go_enter Try.func7, Try.ntmps7
        go_wp2_with fail
        refine (fixed2_any _).mono ?_
        rintro e w1 ⟨rfl, hb1⟩
        go_wp2_with fail
        go_ret
        exact ⟨rfl, hb1⟩
  · have hz1 : ¬ 600 < n := fun h => hz (.inl h)
    have hz2 : ¬ (600 : Int) < (n : Int) := by omega
    have hz3 : ¬ n = 0 := fun h => hz (.inr (.inl h))
    have hz4 : ((n : Int) == 0) = false := by rw [beq_eq_false_iff_ne]; omega
    have hz5 : by_ ≠ 0 := fun h => hz (.inr (.inr h))
    have hz6 : (((by_.toNat : Nat) : Int) == 0) = false := by
      rw [beq_eq_false_iff_ne]
      intro h
      exact hz5 (UInt8.toNat_inj.1 (by simp; omega))
    have hlen : l.length = n := by have := hs.1; simpa using this
    have HL := Lib.hid hlen
    obtain ⟨i0, hi0, hy0, hy1, hy2⟩ := info_parts u8_row
    obtain ⟨k, hk, hat⟩ := at_of t n (by omega) (by omega)
    have hkl : k < l.length := by omega
    have hk' : (k : Int) < (n : Int) := by omega
    have hk0 : (0 : Int) ≤ (k : Int) := by omega
    obtain ⟨y, hy⟩ : ∃ y, y = l[k] ^^^ by_ := ⟨_, rfl⟩
    have hyn : y ≠ l[k] := by rw [hy]; exact xor_ne _ _ hz5
    have HX := Lib.hid (xor_cb l[k] by_)
    rw [← hy] at HX
    have hj : k % 4 < (le4 (crcOf l)).length := by show k % 4 < 4; omega
    obtain ⟨z, hzd⟩ : ∃ z, z = (le4 (crcOf l))[k % 4] ^^^ by_ := ⟨_, rfl⟩
    have hzn : z ≠ (le4 (crcOf l))[k % 4] := by rw [hzd]; exact xor_ne _ _ hz5
    have HZ := Lib.hid (xor_cb (le4 (crcOf l))[k % 4] by_)
    rw [← hzd] at HZ
    have hcs := crc_set l k y hkl hyn
    have hq1 : ((crcOf (l.set k y) : Int) == (crcOf l : Int)) = false := by rw [beq_eq_false_iff_ne]; omega
    have hq2 : (le4 (crcOf (l.set k y)) == le4 (crcOf l)) = false := by rw [beq_eq_false_iff_ne]; exact fun h => hcs (le4_inj (crc_lt _) (crc_lt _) h)
    have hq3 : (le4 (crcOf l) == (le4 (crcOf l)).set (k % 4) z) = false := by rw [beq_eq_false_iff_ne]; exact fun h => set_ne _ _ _ hj hzn h.symm
    have hq4 : (le4 (crcOf l) == le4 (crcOf l)) = true := beq_self_eq_true _
    have hat4 : (wrap64 ((IntKind.u64.wrap t).tmod (n : Int))).tmod 4 = ((k % 4 : Nat) : Int) := by rw [hat, Int.tmod_eq_emod_of_nonneg (by omega)]; omega
    have hj1 : (0 : Int) ≤ ((k % 4 : Nat) : Int) := by omega
    have hj2 : ((k % 4 : Nat) : Int) < 4 := by omega
    have HC := Lib.hid (crc_lt l)
    clear hy hzd hyn hzn hcs hz5
    clear hz hlen
    go_enter Try.func7, Try.ntmps7
    go_wp2_with fail
    refine (fixed2_any _).mono ?_
    rintro e w1 ⟨rfl, hb1⟩
    have hs1 := hs.on hb1
    clear hs
    have hown : (w1.alloc (.cells #[] 5)).ownsRow w1.heap.size 5 1 (.slice (some ⟨w1.heap.size, 0, none⟩) 0 0) 0 [] := World.ownsRow_made w1 _ 0 (Nat.le_refl _) (by decide) rfl
    have hc1 : 0 + n ≤ maxLen := by unfold maxLen; omega
    have hc2 : (0 + n) * 1 ≤ 140737488355328 := by omega
    generalize hjd : k % 4 = j at *
    go_wp2_with (first
      | (at_builtin; refine wpList_append_sees _ rfl (.tmp 24) (.tmp 25) _ rfl w1.heap.size 5 i0 _ 1 sl_u8 hi0 hy0 hy1 hy2 rfl (.slice (some ⟨w1.heap.size, 0, none⟩) 0 0) 0 [] rfl hown w1.heap.size A n c (cbs l) rfl (hs1.alloc (Nat.le_refl _) _) (cbs_one l) hc1 hc2 (by simp) ?_
         intro v2 w2 hown2 hg2 hat2
         rw [Nat.zero_add, List.nil_append] at hown2
         obtain ⟨g, cap, cur, rfl, hgb, hblk, hcap, hcm, hcur⟩ := own_pos hown2 (by omega)
         have hsc := Sees.of_own hown2
         have hcell : w2.cell? ⟨g, k, none⟩ = some (.int .u8 (l[k].toNat : Int)) := (by have := hown2.cells (g := g) rfl k (cb l[k]) (by rw [cbs_get, List.getElem?_eq_getElem hkl]; rfl); unfold Addr.add at this; split at this <;> simp_all [cb])
         have hfr := hblk.frozen k
         have hx := HX.out
         have HS := Lib.hid (((hs1.alloc (Nat.le_refl _) (.cells #[] 5)).grown hg2 (by simp) (fun q e => by cases e; exact Nat.le_refl _)).setCell (p := ⟨g, k, none⟩) hgb (.int .u8 (y.toNat : Int)))
         have HO := Lib.hid (sees_put hsc (by omega : k < n) y)
         rw [Nat.zero_add] at HO
         have HB := Lib.hid (((hb1.alloc hb1.size (.cells #[] 5)).grown hg2 (Nat.le_trans hb1.size (by simp)) (fun q e => by cases e; exact hb1.size)).setCell (p := ⟨g, k, none⟩) (Nat.le_trans hb1.size hgb) (.int .u8 (y.toNat : Int)))
         have hz12 : w1.heap.size ≤ w2.heap.size := Nat.le_trans (by simp) hg2.size
         have hgl := hblk.lt
         clear hown hown2 hg2 hat2 hcur hblk hsc HX))
    have hs3 := HS.out
    clear HS
    have ho3 := HO.out
    clear HO
    have hb3 := HB.out
    clear HB hcell hfr
    have hz3' : w2.heap.size ≤ (w2.setCell ⟨g, k, none⟩ (.int .u8 (y.toNat : Int))).heap.size := (by simp [World.setCell])
    unfold cb at ho3
    generalize hw3 : w2.setCell ⟨g, k, none⟩ (.int .u8 (y.toNat : Int)) = w3 at *
    refine (of_any A n c l w1.heap.size _ hs3 (by omega)).mono ?_
    rintro e w3 ⟨rfl, rfl⟩
    go_wp2_with fail
    refine (bytes_any (crcOf l) w3 HC.out).mono ?_
    rintro e w' ⟨rfl, rfl⟩
    have hs4 := hs3.alloc (o := .cells (cbs (le4 (crcOf l))).toArray 5) (by omega)
    have ho4 := ho3.alloc (o := .cells (cbs (le4 (crcOf l))).toArray 5) (by omega)
    have hb4 := hb3.alloc (o := .cells (cbs (le4 (crcOf l))).toArray 5) hb3.size
    have hS4 := le4_sees w3 (crcOf l)
    have hB4 := Blk.new w3 5 (cbs (le4 (crcOf l))).toArray
    have hz4' : w3.heap.size < (w3.alloc (.cells (cbs (le4 (crcOf l))).toArray 5)).heap.size := (by simp)
    clear hs3 ho3 hb3
    generalize hw4 : w3.alloc (.cells (cbs (le4 (crcOf l))).toArray 5) = w4 at *
    generalize hqd : w3.heap.size = q at *
    go_wp2_with fail
    refine (of_any (some ⟨g, 0, none⟩) n cap (l.set k y) w2.heap.size w4 ho4 (by omega)).mono ?_
    rintro e w4 ⟨rfl, rfl⟩
    go_wp2_with fail
    refine (of_any A n c l w1.heap.size w4 hs4 (by omega)).mono ?_
    rintro e w4 ⟨rfl, rfl⟩
    go_wp2_with fail
    refine (check_any (some ⟨g, 0, none⟩) (some ⟨q, 0, none⟩) n cap 4 4 (l.set k y) (le4 (crcOf l)) _ _ w4 ho4 (by omega) hS4 (Nat.le_refl _) (by omega)).mono ?_
    rintro e w5 ⟨he5, hb5⟩
    rw [hq2] at he5
    subst he5
    have hs5 := hs4.keep (w' := w5) (fun p hp => hb5.cell (by omega))
    have hS5 := hS4.on hb5
    have hB5 := hB4.below hb5 (by omega)
    have hb5' := hb4.trans (hb5.mono hb4.size)
    have hz5' := hb5.size
    clear hs4 ho4 hS4 hB4 hb4 hb5
    go_wp2_with fail
    refine (check_any A (some ⟨q, 0, none⟩) n c 4 4 l (le4 (crcOf l)) _ _ w5 hs5 (by omega) hS5 (Nat.le_refl _) (by omega)).mono ?_
    rintro e w6 ⟨he6, hb6⟩
    rw [hq4] at he6
    subst he6
    have hs6 := hs5.keep (w' := w6) (fun p hp => hb6.cell (by omega))
    have hS6 := hS5.on hb6
    have hB6 := hB5.below hb6 (by omega)
    have hb6' := hb5'.trans (hb6.mono hb5'.size)
    have hz6' := hb6.size
    clear hs5 hS5 hB5 hb5' hb6
    have hcell6 : w6.cell? ⟨q, j, none⟩ = some (.int .u8 ((le4 (crcOf l))[j].toNat : Int)) := (by rw [hB6.cell, List.getElem?_toArray, cbs_get, List.getElem?_eq_getElem hj]; rfl)
    have hfr6 := hB6.frozen j
    have hx6 := HZ.out
    go_wp2_with fail
    have hS7 := sees_put hS6 (k := j) (by omega) z
    rw [Nat.zero_add] at hS7
    have hs7 := hs6.setCell (p := ⟨q, j, none⟩) (by show w1.heap.size ≤ q; omega) (cb z)
    have hz7 : w6.heap.size ≤ (w6.setCell ⟨q, j, none⟩ (cb z)).heap.size := (by simp [World.setCell])
    have hb7 := hb6'.setCell (p := ⟨q, j, none⟩) (by have := hb1.size; show w.heap.size ≤ q; omega) (cb z)
    refine (check_any A (some ⟨q, 0, none⟩) n c 4 4 l ((le4 (crcOf l)).set j z) _ _ _ hs7 (by omega) hS7 (by omega) (by omega)).mono ?_
    rintro e w8 ⟨he8, hb8⟩
    rw [hq3] at he8
    subst he8
    go_wp2_with fail
    go_ret
    exact ⟨rfl, bthen hb7 hb8⟩

set_option maxRecDepth 100000 in
theorem lifted (os : Os) (started : os.Started) (H : Type) (enc : TypeId × Value → H) :
    ReturnsInHanded {} Try.checked os 7 .any (Rows.crcTurnedSpec.pre6 enc Try.prog Try.f7 Rows.crcTurnedRow.domain false) (Rows.crcTurnedSpec.post enc Try.prog Try.f7 false true false false) := by
  refine returnsInHanded_of_change (C := Try.checked) own started (by kernel_rfl) Try.func7
    (ChangeSpec.witness6 (enc := enc) (C := Try.checked) false ⟨#[], #[.slice none 0 0, .int .i64 0, .int .u8 0], []⟩ 8 (by kernel_rfl) (by kernel_rfl) (by kernel_rfl) (by kernel_rfl)) ?_
  intro W base args ds gs before hval0 hW hcnd _
  have hval : ∀ (j : Nat) t v, Try.f7.params[j]? = some t → args[j]? = some v → Value.okWide Try.prog W .any base t v := hval0
  have hW' := hW
  obtain ⟨p, q, hA0, hV, rfl, hfz, hnd⟩ := hW
  have hA : DataW.TrodAll enc Try.prog W 0 (fun _ => true) true Try.f7.params.toList args.toList ds p := hA0
  rw [Try.params7] at hA hval
  obtain ⟨v0, vs0, d0, ds0, p0, q0, hargs, rfl, rfl, h0, r0⟩ := trodAll_cons hA
  obtain ⟨v1, vs1, d1, ds1, p1, q1, rfl, rfl, rfl, h1, r1⟩ := trodAll_cons r0
  obtain ⟨v2, vs2, d2, ds2, p2, q2, rfl, rfl, rfl, h2, r2⟩ := trodAll_cons r1
  obtain ⟨rfl, rfl, rfl⟩ := trodAll_nil r2
  obtain rfl : args = #[v0, v1, v2] := by cases args; simp_all
  obtain ⟨rfl, rfl⟩ := trodVars_none hV
  obtain ⟨a0, len0, cap0, rfl⟩ := okWide_slice Try.underlying23 (hval 0 23 v0 rfl rfl)
  have k0 := h0
  have lt0 : ∀ x ∈ p0, x.block < W.heap.size := by obtain ⟨m, hm⟩ := k0; exact DataW.trod_lt m _ _ _ hm
  obtain ⟨m0, h0⟩ := h0
  obtain ⟨hl0, hc0, l, hs⟩ := open_bytes Try.underlying23 Try.underlying5 u8_cells h0
  obtain ⟨a1, rfl, rfl, rfl, w1⟩ := open_int Try.underlying3 (hval 1 3 v1 rfl rfl) h1
  obtain ⟨a2, rfl, rfl, rfl, w2⟩ := open_int Try.underlying5 (hval 2 5 v2 rfl rfl) h2
  obtain ⟨y, hy⟩ : ∃ y : UInt8, a2 = (y.toNat : Int) := ⟨UInt8.ofNat a2.toNat, by have e := byte_of w2; unfold cb at e; injection e⟩
  subst hy
  clear hA0 hval0
  refine (walk a0 len0 cap0 l a1 y W hs (Nat.le_trans hl0 hc0)).mono fun e W' ⟨he, bel⟩ => ?_
  subst he
  exact ⟨_, rfl, _, _, _, [], _, [], hW', trodAll_mk1 (shut_bool Try.underlying4 _), (trodAll_cons_mk (Below.trod laidOut (by kernel_rfl) (of_decide_eq_true (by kernel_rfl)) k0 bel lt0) (trodAll_cons_mk (shut_int Try.underlying3 w1) (trodAll_cons_mk (shut_int Try.underlying5 w2) trodAll_mk0))), rfl, bel.frame _, fun h => by cases h⟩

theorem over : Rows.crcTurnedRow.holds Try.pinned (OpenSpec.ofChange Rows.crcTurnedSpec) :=
  OpenClaim.holds_of_wide 7 Try.f7 rfl rfl rfl rfl rfl rfl rfl ⟨rfl, rfl, rfl, rfl, rfl⟩ rfl rfl rfl rfl rfl (by kernel_rfl) Try.func7 (by kernel_rfl)
    (of_decide_eq_true (by kernel_rfl)) (by unfold Func.isWrapper; first | (rw [if_pos (by decide +kernel)]; kernel_rfl) | (rw [if_neg (by decide +kernel)]; exact ⟨rfl, rfl⟩))
    (fun os started H enc _ => lifted os started H enc)

theorem proved : Rows.CrcTurnedSaid :=
  over
#print axioms proved
end Go.Proofs.Ytnadmijfbfgcnaa.crcTurned
