/- slices.Sort of numbers: the library's contract, laid at this seat in plain words; what it leaves of a row of the call's own. -/
import Derived.Shelf.Sort.Plain
import Derived.Lib.SortBridge
import Derived.Laws.IdiomCopy
import Derived.Test.YtlggkeoihpcdiaaJ7
namespace Go.Proofs.Ytlggkeoihpcdiaa
open Go.RowKit Go.Shelf Go.Sort

set_option maxRecDepth 100000
def laysSort_ren : Go.Shelf.Ren := ⟨fun | 189 => 109 | 125 => 126 | 257 => 125 | 128 => 140 | 129 => 141 | 294 => 131 | 295 => 132 | 296 => 133 | 297 => 134 | 298 => 135 | 299 => 136 | 216 => 137 | 300 => 138 | 301 => 139 | 328 => 145 | 329 => 146 | 330 => 147 | 331 => 148 | 332 => 149 | 215 => 150 | 343 => 151 | n => n, fun | 28 => 85 | 3 => 3 | 46 => 106 | 0 => 0 | 51 => 80 | 53 => 119 | 4 => 4 | 183 => 176 | 182 => 175 | 131 => 137 | 5 => 5 | 9 => 9 | 218 => 185 | 222 => 189 | 228 => 192 | 229 => 112 | n => n, fun | n => n⟩
theorem laysSort : Go.Proofs.Lays.n189 Try.prog laysSort_ren where
  mixed := by kernel_rfl
  f125 := Try.func126.trans (congrArg some (by kernel_rfl))
  f128 := Try.func140.trans (congrArg some (by kernel_rfl))
  f129 := Try.func141.trans (congrArg some (by kernel_rfl))
  f189 := Try.func109.trans (congrArg some (by kernel_rfl))
  f215 := Try.func150.trans (congrArg some (by kernel_rfl))
  f216 := Try.func137.trans (congrArg some (by kernel_rfl))
  f257 := Try.func125.trans (congrArg some (by kernel_rfl))
  f294 := Try.func131.trans (congrArg some (by kernel_rfl))
  f295 := Try.func132.trans (congrArg some (by kernel_rfl))
  f296 := Try.func133.trans (congrArg some (by kernel_rfl))
  f297 := Try.func134.trans (congrArg some (by kernel_rfl))
  f298 := Try.func135.trans (congrArg some (by kernel_rfl))
  f299 := Try.func136.trans (congrArg some (by kernel_rfl))
  f300 := Try.func138.trans (congrArg some (by kernel_rfl))
  f301 := Try.func139.trans (congrArg some (by kernel_rfl))
  f328 := Try.func145.trans (congrArg some (by kernel_rfl))
  f329 := Try.func146.trans (congrArg some (by kernel_rfl))
  f330 := Try.func147.trans (congrArg some (by kernel_rfl))
  f331 := Try.func148.trans (congrArg some (by kernel_rfl))
  f332 := Try.func149.trans (congrArg some (by kernel_rfl))
  f343 := Try.func151.trans (congrArg some (by kernel_rfl))
  t0 := Try.underlying0
  a0 := Try.isAgg0
  z0 := Try.sizeOf0
  v0 := Try.zeroValue0
  t3 := Try.underlying3
  a3 := Try.isAgg3
  z3 := Try.sizeOf3
  v3 := Try.zeroValue3
  t4 := Try.underlying4
  a4 := Try.isAgg4
  z4 := Try.sizeOf4
  v4 := Try.zeroValue4
  t5 := Try.underlying5
  a5 := Try.isAgg5
  z5 := Try.sizeOf5
  v5 := Try.zeroValue5
  t9 := Try.underlying9
  a9 := Try.isAgg9
  z9 := Try.sizeOf9
  v9 := Try.zeroValue9
  t28 := Try.underlying85
  a28 := Try.isAgg85
  z28 := Try.sizeOf85
  v28 := Try.zeroValue85
  t46 := Try.underlying106
  a46 := Try.isAgg106
  z46 := Try.sizeOf106
  v46 := Try.zeroValue106
  t51 := Try.underlying80
  a51 := Try.isAgg80
  z51 := Try.sizeOf80
  v51 := Try.zeroValue80
  t53 := Try.underlying119
  a53 := Try.isAgg119
  z53 := Try.sizeOf119
  v53 := Try.zeroValue119
  t131 := Try.underlying137
  a131 := Try.isAgg137
  z131 := Try.sizeOf137
  v131 := Try.zeroValue137
  t182 := Try.underlying175
  a182 := Try.isAgg175
  z182 := Try.sizeOf175
  v182 := Try.zeroValue175
  t183 := Try.underlying176
  a183 := Try.isAgg176
  z183 := Try.sizeOf176
  v183 := Try.zeroValue176
  t218 := Try.underlying185
  a218 := Try.isAgg185
  z218 := Try.sizeOf185
  v218 := Try.zeroValue185
  t222 := Try.underlying189
  a222 := Try.isAgg189
  z222 := Try.sizeOf189
  v222 := Try.zeroValue189
  t228 := Try.underlying192
  a228 := Try.isAgg192
  z228 := Try.sizeOf192
  v228 := Try.zeroValue192
  t229 := Try.underlying112
  a229 := Try.isAgg112
  z229 := Try.sizeOf112
  v229 := Try.zeroValue112


def ints (zs : List Int) : List Value := zs.map (Value.int .i64)
theorem ints_length (zs : List Int) : (ints zs).length = zs.length := by simp [ints]
theorem setCells_get (q : Nat) : ∀ (vs : List Value) (o : Nat) (w : World) (t : TypeId) (cs : Array Value), Blk w q t cs → o + vs.length ≤ cs.size → ∃ cs', Blk (w.setCells q o vs) q t cs' ∧ cs'.size = cs.size ∧ (∀ j, j < o → cs'[j]? = cs[j]?) ∧ ∀ j u, vs[j]? = some u → cs'[o + j]? = some u
  | [], _, _, _, cs, h, _ => ⟨cs, h, rfl, fun _ _ => rfl, fun j u hu => by simp at hu⟩
  | v :: r, o, w, t, cs, h, hl => by
    obtain ⟨cs', h1, h2, h3, h4⟩ := setCells_get q r (o + 1) (w.setCell ⟨q, o, none⟩ v) t _ (h.set_ o v) (by simp at hl ⊢; omega)
    refine ⟨cs', h1, by rw [h2]; simp, fun j hj => ?_, fun j u hu => ?_⟩
    · rw [h3 j (by omega), Array.getElem?_setIfInBounds, if_neg (by omega)]
    · cases j with
      | zero =>
        simp only [List.getElem?_cons_zero, Option.some.injEq] at hu
        subst hu
        rw [Nat.add_zero, h3 o (by omega), Array.getElem?_setIfInBounds, if_pos rfl, if_pos (by simp at hl; omega)]
      | succ j =>
        have := h4 j u (by simpa using hu)
        rw [show o + (j + 1) = o + 1 + j from by omega]
        exact this
theorem sort_any (q n c : Nat) (zs : List Int) (w : World) (hb : Blk w q 3 (ints zs).toArray) (hn : zs.length = n) (hsz : n ≤ 1048576) :
    Calls Try.prog 109 #[.slice (some ⟨q, 0, none⟩) n c] w fun e w' => e = .returned (.tuple #[]) ∧ w.grownBy w' (some q) ∧ Sees w' w'.heap.size (some ⟨q, 0, none⟩) n (ints (zs.mergeSort fun x y => decide (x ≤ y))) := by
  subst hn
  have hH : Holds (Value.int .i64) w q 0 zs.toArray := fun j hj => by
    have hj' : j < zs.length := by simpa using hj
    refine ⟨?_, hb.frozen _⟩
    rw [hb.cell]
    simp [ints, hj']
  refine (Any.slices_Sort_int laysSort q 0 c zs w hH hb.lt (by omega)).mono ?_
  rintro e w' ⟨rfl, m, os, rfl⟩
  have hl : (zs.mergeSort fun x y => decide (x ≤ y)).length = zs.length := List.length_mergeSort ..
  rw [Lib.sorted_world (Value.int .i64) w q 0 m zs.toArray (zs.mergeSort fun x y => decide (x ≤ y)) os hH (by simp)]
  generalize hys : (zs.mergeSort fun x y => decide (x ≤ y)) = ys at *
  obtain ⟨cs', h1, h2, _, h4⟩ := setCells_get q (ys.map (Value.int .i64)) 0 (w.drewN m) 3 _ (hb.drewN m) (by simp [ints, hl])
  have hg : w.grownBy ((w.drewN m).setCells q 0 (ys.map (Value.int .i64))) (some q) := gb_sets _ _ _ (gb_drewN (gb_refl w (some q)) m)
  have hlt := h1.lt
  generalize (w.drewN m).setCells q 0 (ys.map (Value.int .i64)) = W at *
  have hk : ∀ k, k < W.heap.size → (grow W os).heap[k]? = W.heap[k]? := fun k hk => by
    unfold grow
    simp only
    rw [Array.getElem?_append, if_pos hk]
  have hs : W.heap.size ≤ (grow W os).heap.size := by unfold grow; simp
  refine ⟨rfl, ⟨hg.os, hg.tape, hg.output, Nat.le_trans hg.size hs, fun k hk1 hk2 => (hk k (Nat.lt_of_lt_of_le hk1 hg.size)).trans (hg.block k hk1 hk2)⟩, ?_⟩
  have hb' : Blk (grow W os) q 3 cs' := (hk q hlt).trans h1
  refine ⟨by rw [ints_length, hl], fun _ => ⟨q, 0, rfl, hb'.lt, fun j u hu => ?_⟩⟩
  rw [hb'.cell]
  exact h4 j u hu
end Go.Proofs.Ytlggkeoihpcdiaa

/- The walk of package raft's commitMost. -/
namespace Go.Proofs.Ytlggkeoihpcdiaa
open Go.RowKit

theorem i64_row : (Try.prog.info? 3).map (fun i => (i.zero, i.size, i.bytes)) = some (some (.int .i64 0), 1, 8) := by kernel_rfl
theorem sl_i64 : Try.prog.underlying 85 = some (.slice 3) := Try.underlying85

/-- what the first k of the others have -/
def hasK (x : NodeM) (n k : Nat) : List Int := (List.range n).map fun i => if i < k then (x.peers.getD i ⟨0, 0⟩).has else 0
/-- what a majority has -/
def mostHas (x : NodeM) : Int := (((hasK x x.n.toNat x.n.toNat).set x.id.toNat x.log.length).mergeSort fun a b => decide (a ≤ b)).getD ((x.n.toNat - 1) / 2) 0
def commitF (x : NodeM) : NodeM × Bool := if mostHas x ≤ x.commit ∨ (termF x.log (mostHas x)).1 ≠ x.term then (x, false) else ({ x with commit := mostHas x }, true)
theorem hasK_length (x : NodeM) (n k : Nat) : (hasK x n k).length = n := by simp [hasK]
theorem hasK_get (x : NodeM) (n k i : Nat) (hi : i < n) : (hasK x n k)[i]? = some (if i < k then (x.peers.getD i ⟨0, 0⟩).has else 0) := by simp [hasK, hi]
theorem ints_set (l : List Int) (k : Nat) (v : Int) : (ints l).toArray.setIfInBounds k (.int .i64 v) = (ints (l.set k v)).toArray := by
  simp [ints, List.map_set]
theorem hasK_succ (x : NodeM) (n k : Nat) (hk : k < n) : (hasK x n k).set k (x.peers.getD k ⟨0, 0⟩).has = hasK x n (k + 1) := by
  apply List.ext_getElem?
  intro i
  by_cases hi : i < n
  · rw [List.getElem?_set, hasK_get _ _ _ _ hi, hasK_get _ _ _ _ hi]
    by_cases h : k = i
    · subst h
      simp [hasK_length, hk]
    · rw [if_neg h]
      congr 1
      by_cases h2 : i < k
      · rw [if_pos h2, if_pos (by omega)]
      · rw [if_neg h2, if_neg (by omega)]
  · rw [List.getElem?_eq_none (by simp [hasK_length]; omega), List.getElem?_eq_none (by simp [hasK_length]; omega)]
theorem hasK_zero (x : NodeM) (n : Nat) : (ints (hasK x n 0)).toArray = (List.replicate n (Value.int .i64 0)).toArray := by
  congr 1
  apply List.ext_getElem?
  intro i
  by_cases hi : i < n
  · simp [ints, hasK, hi]
  · rw [List.getElem?_eq_none (by simp [ints, hasK_length]; omega), List.getElem?_eq_none (by simp; omega)]
theorem ints_get (l : List Int) (i : Nat) (hi : i < l.length) : (ints l)[i]? = some (.int .i64 (l.getD i 0)) := by
  simp [ints, hi]

set_option maxRecDepth 100000 in
set_option maxHeartbeats 1600000 in
/-- (*raft.Node).commitMost -/
theorem commitMost_any (base g : Nat) (x : NodeM) (S : Nat → Prop) (w : World) (h : NodeAt w base g x S) (hn0 : 0 < x.n) (hn7 : x.n ≤ 7) (hid0 : 0 ≤ x.id) (hid : x.id < x.n) (hpl : (x.peers.length : Int) = x.n) (hl : x.log.length ≤ 1048576) (hB : base ≤ w.heap.size) :
    Calls Try.prog 90 #[.pointer (some ⟨g, 0, none⟩)] w fun e w' => e = .returned (.bool (commitF x).2) ∧ NMoves w base g S (commitF x).1 w' := by
  obtain ⟨n, hxn⟩ : ∃ n : Nat, x.n = n := ⟨x.n.toNat, by omega⟩
  obtain ⟨d, hxd⟩ : ∃ d : Nat, x.id = d := ⟨x.id.toNat, by omega⟩
  have hpn : x.peers.length = n := by omega
  have hmh : mostHas x = (((hasK x n n).set d x.log.length).mergeSort fun a b => decide (a ≤ b)).getD ((n - 1) / 2) 0 := by
    unfold mostHas
    rw [hxn, hxd]
    rfl
  obtain ⟨L, hL, hS⟩ := h.cell
  obtain ⟨⟨c0, c1, c2, c3⟩, ⟨c4, c5, c6, c7⟩, ⟨c8, c9, c10, c11⟩, ⟨c12, c13, c14, c15, c16⟩⟩ := hL.cells
  rw [hxn] at c1
  rw [hxd] at c0
  rw [hpn] at c13
  have hmk := fun W => run_make_row' (P := Try.prog) 85 3 (.int .i64 0) 8 sl_i64 i64_row rfl .i64 .i64 n (by omega) (by omega) W
  have HL := Lib.hid hL
  have HS := Lib.hid hS
  have H := Lib.hid h
  have HB := Lib.hid hB
  have HLL := Lib.hid hl
  have HN := Lib.hid (show 0 < n ∧ n ≤ 7 ∧ d < n by omega)
  have HX := Lib.hid (show x.n = n ∧ x.id = d ∧ x.peers.length = n from ⟨hxn, hxd, hpn⟩)
  have HMH := Lib.hid hmh
  clear hL hS h hB hl hn0 hn7 hid0 hid hpl hxn hxd hpn hmh
  go_enter Try.func90, Try.ntmps90
  go_upto_region 2 with (fail)
  have hq0 : Blk (w.alloc (.cells (madeCells #[.int .i64 0] n) 3)) w.heap.size 3 (ints (hasK x n 0)).toArray := by
    have h9 := Blk.new w 3 (madeCells #[.int .i64 0] n)
    have e9 : madeCells #[.int .i64 0] n = (ints (hasK x n 0)).toArray := by
      apply Array.toList_inj.1
      rw [toList_madeCells_one, hasK_zero]
    rw [e9] at h9
    rw [← e9] at h9
    rw [e9] at h9 ⊢
    exact h9
  have hb0 := (Below.refl w.heap.size w).alloc (Nat.le_refl _) (.cells (madeCells #[.int .i64 0] n) 3)
  have HQ0 := Lib.hid hq0
  have HB0 := Lib.hid hb0
  have c13A := fun o => ((HL.out.on ((Below.refl w.heap.size w).alloc (Nat.le_refl _) o)).cells).2.2.2.2.1
  rw [HX.out.2.2] at c13A
  clear hq0 hb0 hmk c0 c1 c2 c3 c4 c5 c6 c7 c8 c9 c10 c11 c12 c13 c14 c15 c16
  go_wp2_with fail
  clear c13A
  generalize w.alloc (.cells (madeCells #[.int .i64 0] n) 3) = w1 at *
  go_loopw [19] (fun iv wr => ∃ k : Nat, k ≤ n ∧ iv = .int .i64 (k : Int) ∧ Blk wr w.heap.size 3 (ints (hasK x n k)).toArray ∧ Below w.heap.size w wr) (fun iv _ => n - (intOf iv).toNat)
  case atStart => exact ⟨0, Nat.zero_le _, rfl, HQ0.out, HB0.out⟩
  case round =>
    obtain ⟨k, hk, rfl, hblk, hbel⟩ := hrel
    by_cases hlt : k < n
    · have hkp : k < x.peers.length := by rw [HX.out.2.2]; exact hlt
      obtain ⟨b, off, hAp, hbl, d0, d1⟩ := HL.out.peer hkp
      have hgd : x.peers.getD k ⟨0, 0⟩ = x.peers[k] := by rw [List.getD_eq_getElem?_getD, List.getElem?_eq_getElem hkp]; rfl
      have hst := hasK_succ x n k hlt
      rw [hgd] at hst
      have d0' := (hbel.cell (p := ⟨b, off + k * 2, none⟩) hbl).trans d0
      have d1' := (hbel.cell (p := ⟨b, off + k * 2 + 1, none⟩) hbl).trans d1
      have hlt' : (k : Int) < (n : Int) := by omega
      have hk7 : (k : Int) ≤ 7 := by have := HN.out; omega
      have hcell : wr.cell? ⟨w.heap.size, k, none⟩ = some (.int .i64 ((hasK x n k).getD k 0)) := by
        rw [hblk.cell]
        simp only [List.getElem?_toArray]
        exact ints_get _ k (by rw [hasK_length]; exact hlt)
      have hfr : wr.frozen? ⟨w.heap.size, k, none⟩ = false := hblk.frozen k
      have hcA : ∀ o, (wr.alloc o).cell? ⟨w.heap.size, k, none⟩ = some (.int .i64 ((hasK x n k).getD k 0)) := fun o => by rw [(hblk.alloc o).cell, ← hcell, hblk.cell]
      have hfA : ∀ o, (wr.alloc o).frozen? ⟨w.heap.size, k, none⟩ = false := fun o => (hblk.alloc o).frozen k
      rw [hAp]
      clear d0 d1 hgd
      generalize x.peers[k] = p at *
      obtain ⟨ph, pn⟩ := p
      simp only at d0' d1' hst
      have HST := Lib.hid (show (ints (hasK x n k)).toArray.setIfInBounds k (.int .i64 ph) = (ints (hasK x n (k + 1))).toArray by rw [ints_set, hst])
      have HBK := Lib.hid hblk
      have HBE := Lib.hid hbel
      have HK := Lib.hid hlt
      generalize (hasK x n k).getD k 0 = old at *
      clear hst hblk hbel hlt hk hkp hbl
      go_wp2_with fail
      go_roundw
      case rel =>
        refine ⟨k + 1, HK.out, by go_num, ?_, ?_⟩
        · have h1 := HBK.out.set_ k (.int .i64 ph)
          rw [HST.out] at h1
          have h2 := HBK.out.alloc (.cells #[.int .i64 ph, .int .i64 pn] 152)
          have h3 := h2.set_ k (.int .i64 ph)
          rw [HST.out] at h3
          first | exact h1.alloc _ | exact h3
        · first | exact (HBE.out.setCell (p := ⟨w.heap.size, k, none⟩) (Nat.le_refl _) _).alloc ((HBE.out.setCell (p := ⟨w.heap.size, k, none⟩) (Nat.le_refl _) (.int .i64 ph)).size) _ | exact (HBE.out.alloc HBE.out.size _).setCell (p := ⟨w.heap.size, k, none⟩) (Nat.le_refl _) _
      case measure => have := HK.out; simp [intOf]; omega
    · have hlt' : ¬ (k : Int) < (n : Int) := by omega
      obtain rfl : k = n := by omega
      have HBK := Lib.hid hblk
      have HBE := Lib.hid hbel
      have HNA := Lib.hid (H.out.on hbel)
      have HLA := Lib.hid (HL.out.on hbel)
      have HLS := Lib.hid (fun W (hW : NodeAt W base g x S) => nLast_any base g x S W hW (by have := HX.out.1; have := HN.out; omega) HLL.out)
      have hd : (d : Int) < (k : Int) := by have := HN.out; omega
      have hd0 : (0 : Int) ≤ (d : Int) := by omega
      have hcell := fun (W : World) (hW : Below wr.heap.size wr W) => (show W.cell? ⟨w.heap.size, d, none⟩ = some (.int .i64 ((hasK x k k).getD d 0)) by
        rw [(HBK.out.below hW HBK.out.lt).cell]
        simp only [List.getElem?_toArray]
        exact ints_get _ d (by rw [hasK_length]; exact HN.out.2.2))
      have hca := hcell wr (Below.refl _ _)
      have hfr := HBK.out.frozen d
      have HC := Lib.hid hcell
      generalize (hasK x k k).getD d 0 = old at *
      clear hblk hbel hlt hlt' hk hcell
      go_upto_region 7 with (fail)
      obtain ⟨⟨c0, c1, c2, c3⟩, ⟨c4, c5, c6, c7⟩, ⟨c8, c9, c10, c11⟩, _⟩ := HLA.out.cells
      rw [HX.out.2.1] at c0
      go_cut [] (fun wx => Blk wx w.heap.size 3 (ints ((hasK x k k).set d x.log.length)).toArray ∧ Below w.heap.size w wx)
      case first =>
        go_region_with (refine (HLS.out _ (by first | exact HNA.out | exact HNA.out.on ((Below.refl _ _).drew))).mono ?_; rintro e w3 ⟨rfl, rfl⟩)
        all_goals
          go_wp2_with fail
          go_meet
          have h1 := HBK.out.set_ d (.int .i64 (x.log.length : Int))
          rw [ints_set] at h1
          exact ⟨h1, (HBE.out.setCell (p := ⟨w.heap.size, d, none⟩) (Nat.le_refl _) _).drew⟩
      case rest =>
        obtain ⟨hbk2, hbe2⟩ := hcut
        have hl9 : ((hasK x k k).set d (x.log.length : Int)).length = k := by rw [List.length_set, hasK_length]
        have HSO := Lib.hid (sort_any w.heap.size k k _ wc hbk2 hl9 (by have := HN.out; omega))
        have HMH2 := HMH
        have hsl : (((hasK x k k).set d (x.log.length : Int)).mergeSort fun a b => decide (a ≤ b)).length = k := by rw [List.length_mergeSort]; exact hl9
        generalize (((hasK x k k).set d (x.log.length : Int)).mergeSort fun a b => decide (a ≤ b)) = zs at *
        have HSL := Lib.hid hsl
        have HBE2 := Lib.hid hbe2
        clear hbk2 hbe2 hl9 hsl hca hfr c0 c1 c2 c3 c4 c5 c6 c7 c8 c9 c10 c11 HC HLS HQ0 HB0
        go_wp2_with fail
        refine HSO.out.mono ?_
        rintro e w4 ⟨rfl, hg4, hs4⟩
        have hb4 : Below w.heap.size w w4 := HBE2.out.grown hg4 HBE2.out.size (fun q e => by injection e with e; omega)
        have HB4 := Lib.hid hb4
        have HL4 := Lib.hid (HL.out.on hb4)
        obtain ⟨⟨c0, c1, c2, c3⟩, ⟨c4, c5, c6, c7⟩, _⟩ := HL4.out.cells
        rw [HX.out.1] at c1
        have hmid : (k - 1) / 2 < k := by have := HN.out; omega
        obtain ⟨b', off', u, hA', _, hu, hcu⟩ := hs4.at_ hmid
        injection hA' with hA'
        injection hA' with e1 e2 _
        subst e1 e2
        rw [ints_get _ _ (by rw [HSL.out]; exact hmid), ← HMH2.out] at hu
        injection hu with hu
        subst hu
        rw [Nat.zero_add] at hcu
        have hq1 : ((k : Int) - 1).tdiv 2 = (((k - 1) / 2 : Nat) : Int) := by have := HN.out; rw [Int.tdiv_eq_ediv_of_nonneg (by omega)]; omega
        have hq2 : ((k : Int) - 1) / 2 = (((k - 1) / 2 : Nat) : Int) := by have := HN.out; omega
        have hq3 : (((k - 1) / 2 : Nat) : Int) < (k : Int) := by omega
        have hq4 : wrap64 ((k : Int) - 1) = (k : Int) - 1 := wr_64 (by have := HN.out; omega) (by have := HN.out; omega)
        have hq5 : IntKind.i64.wrap ((k : Int) - 1) = (k : Int) - 1 := wr_i64 (by have := HN.out; omega) (by have := HN.out; omega)
        have hq6 : wrap64 ((((k - 1) / 2 : Nat) : Int)) = (((k - 1) / 2 : Nat) : Int) := wr_64 (by omega) (by have := HN.out; omega)
        have HLT := Lib.hid (lTerm_any base L.gl L.fl x.log (mostHas x) w4 HL4.out.log (by have := HLL.out; omega))
        have HCF := Lib.hid (show commitF x = if mostHas x ≤ x.commit ∨ (termF x.log (mostHas x)).1 ≠ x.term then (x, false) else ({ x with commit := mostHas x }, true) from rfl)
        generalize mostHas x = mh at *
        generalize (k - 1) / 2 = md at *
        clear hs4 hg4 hb4 hmid HSO
        go_wp2_with fail
        refine HLT.out.mono ?_
        rintro e w5 ⟨rfl, rfl⟩
        have f7 := HL4.out.blk.frozen 7
        by_cases h1 : mh ≤ x.commit
        · have hc := HCF.out
          rw [if_pos (.inl h1)] at hc
          have HCC := Lib.hid hc
          clear hc HCF HLT hcu
          generalize (termF x.log mh).1 = tm at *
          go_wp2_with fail
          go_ret
          rw [HCC.out]
          exact ⟨rfl, NMoves.on H.out HB4.out⟩
        · by_cases h2 : (termF x.log mh).1 = x.term
          · have hc := HCF.out
            rw [if_neg (fun h => h.elim h1 (fun h3 => h3 h2))] at hc
            have HCC := Lib.hid hc
            rw [h2]
            clear hc HCF HLT hcu h2
            go_wp2_with fail
            go_ret
            rw [HCC.out]
            refine ⟨rfl, NMoves.trans (S1 := S) (w1 := w5) (Turn.of_below HB4.out) (fun _ hk => .inl hk) (NMoves.of HS.out (HL4.out.set 7 (.int .i64 mh) (x' := { x with commit := mh }) rfl rfl rfl rfl) ((Turn.refl S w5).set_ ⟨(HS.out g).2 (.inl rfl), _, HL4.out.blk⟩ 7 _))⟩
          · have hc := HCF.out
            rw [if_pos (.inr h2)] at hc
            have HCC := Lib.hid hc
            have h2' : ((termF x.log mh).1 != x.term) = true := by simp [h2]
            have h2'' : ((termF x.log mh).1 == x.term) = false := by rw [beq_eq_false_iff_ne]; exact h2
            clear hc HCF HLT hcu
            generalize (termF x.log mh).1 = tm at *
            go_wp2_with fail
            go_ret
            rw [HCC.out]
            exact ⟨rfl, NMoves.on H.out HB4.out⟩
end Go.Proofs.Ytlggkeoihpcdiaa

/- The walks of package raft's add and Propose. -/
namespace Go.Proofs.Ytlggkeoihpcdiaa
open Go.RowKit

/-- the log has turned -/
theorem NodeR.logged {w w' : World} {base g : Nat} {x : NodeM} {L : NodeL} {es : List Ent} (h : NodeR w base g x L) {f' : Option Nat} (hl : LogAt w' base L.gl f' es) (hm : Moved L.gl L.fl w w') (hf : f' = L.fl ∨ f' = none ∨ ∃ k, f' = some k ∧ w.heap.size ≤ k) :
    NodeR w' base g { x with log := es } { L with fl := f' } := by
  have hne : ∀ (T : TypeId) (k : Nat) (cs : Array Value), T ≠ 73 → T ≠ 131 → Blk w k T cs → w'.heap[k]? = w.heap[k]? := fun T k cs h1 h2 hb => by
    obtain ⟨A, c, hlb, _⟩ := h.log
    refine hm.block k hb.lt (hb.apart hlb h2) (fun e => ?_)
    obtain ⟨_, cur, hB⟩ := h.log.foot_at k e.symm
    exact hb.apart hB h1 rfl
  refine ⟨(hne _ g _ (by decide) (by decide) h.blk).trans h.blk, h.base_le, hl, h.peers.keep (fun k hk => ?_), h.out.keep (fun k hk => ?_), h.msgs, fun y hy => ⟨(h.rows y hy).1, (h.rows y hy).2.1.keep (fun k hk => ?_), fun k hk => ?_⟩⟩
  · obtain ⟨_, cur, hB⟩ := h.peers.foot_at k hk
    exact hne _ k cur (by decide) (by decide) hB
  · obtain ⟨_, cur, hB⟩ := h.out.foot_at k hk
    exact hne _ k cur (by decide) (by decide) hB
  · obtain ⟨A, c, hlb, _⟩ := h.log
    obtain ⟨_, cur, hB⟩ := (h.rows y hy).2.1.foot_at k hk
    exact hm.block k hB.lt (hB.apart hlb (by decide)) (fun e => (h.rows y hy).2.2 k hk e.symm)
  · obtain ⟨_, cur, hB⟩ := (h.rows y hy).2.1.foot_at k hk
    have hlt := hB.lt
    rcases hf with rfl | rfl | ⟨q, rfl, hq⟩
    · exact (h.rows y hy).2.2 k hk
    · simp
    · simp only [ne_eq, Option.some.injEq]
      omega
/-- .. and so the node's call -/
theorem NMoves.logged {w w' : World} {base g : Nat} {x : NodeM} {L : NodeL} {S : Nat → Prop} {es : List Ent} (h : NodeR w base g x L) (hS : ∀ k, S k ↔ L.has g k) (hm : LogMoves w base L.gl L.fl es w') : NMoves w base g S { x with log := es } w' := by
  obtain ⟨f', hl, hmv, hf⟩ := hm
  have hn := h.logged hl hmv hf
  refine ⟨_, ⟨_, hn, fun k => Iff.rfl⟩, ⟨hmv.os, hmv.tape, hmv.output, hmv.size, fun k hk hs => hmv.block k hk (fun e => hs ((hS k).2 (.inr (.inl e)))) (fun e => hs ((hS k).2 (.inr (.inr (.inl e.symm))))), fun k cs hb => ?_⟩, fun k hk => ?_⟩
  · obtain ⟨A, c, hlb, _⟩ := h.log
    refine hmv.block k hb.lt (hb.apart hlb (by decide)) (fun e => ?_)
    obtain ⟨_, cur, hB⟩ := h.log.foot_at k e.symm
    exact hb.apart hB (by decide) rfl
  have hlt := hn.has_lt hk
  rcases hk with hk | hk | hk | hk | hk
  · exact .inl ((hS k).2 (.inl hk))
  · exact .inl ((hS k).2 (.inr (.inl hk)))
  · rcases hf with h9 | h9 | ⟨q, h9, hq⟩
    · exact .inl ((hS k).2 (.inr (.inr (.inl (h9 ▸ hk)))))
    · have := h9.symm.trans hk
      cases this
    · have e9 := h9.symm.trans hk
      injection e9 with e9
      subst e9
      exact .inr ⟨hq, hlt⟩
  · exact .inl ((hS k).2 (.inr (.inr (.inr (.inl hk)))))
  · exact .inl ((hS k).2 (.inr (.inr (.inr (.inr hk)))))

def addN (x : NodeM) (s : ByteArray) : NodeM × Nat :=
  if (addF x.log ⟨x.term, s⟩).2 ≠ 0 then ({ x with log := (addF x.log ⟨x.term, s⟩).1 }, (addF x.log ⟨x.term, s⟩).2)
  else ((commitF (unsavedF { x with log := (addF x.log ⟨x.term, s⟩).1 } (addF x.log ⟨x.term, s⟩).1.length)).1, 0)
theorem addF_len (es : List Ent) (e : Ent) : (addF es e).1.length ≤ es.length + 1 := by
  unfold addF
  split
  · exact Nat.le_succ _
  · split
    · exact Nat.le_succ _
    · simp
/-- unsaved turns but one field -/
theorem unsavedF_same (x : NodeM) (i : Int) : (unsavedF x i).id = x.id ∧ (unsavedF x i).n = x.n ∧ (unsavedF x i).peers = x.peers ∧ (unsavedF x i).log = x.log := by
  unfold unsavedF
  split <;> exact ⟨rfl, rfl, rfl, rfl⟩

set_option maxRecDepth 100000 in
set_option maxHeartbeats 800000 in
/-- (*raft.Node).add -/
theorem add_any (base g : Nat) (x : NodeM) (s : ByteArray) (S : Nat → Prop) (w : World) (h : NodeAt w base g x S) (hn0 : 0 < x.n) (hn7 : x.n ≤ 7) (hid0 : 0 ≤ x.id) (hid : x.id < x.n) (hpl : (x.peers.length : Int) = x.n) (hl : x.log.length ≤ 1048000) (hB : base ≤ w.heap.size) :
    Calls Try.prog 60 #[.pointer (some ⟨g, 0, none⟩), .string s] w fun e w' => e = .returned (.int .i64 ((addN x s).2 : Int)) ∧ NMoves w base g S (addN x s).1 w' := by
  obtain ⟨L, hL, hS⟩ := h.cell
  obtain ⟨⟨c0, c1, c2, c3⟩, ⟨c4, c5, c6, c7⟩, _⟩ := hL.cells
  have HLA := Lib.hid (fun W (hW : Below w.heap.size w W) => lAdd_any base L.gl L.fl x.log ⟨x.term, s⟩ W (hL.on hW).log (by omega) (Nat.le_trans hB hW.size))
  have hal := addF_len x.log ⟨x.term, s⟩
  have HAN := Lib.hid (show addN x s = if (addF x.log ⟨x.term, s⟩).2 ≠ 0 then ({ x with log := (addF x.log ⟨x.term, s⟩).1 }, (addF x.log ⟨x.term, s⟩).2) else ((commitF (unsavedF { x with log := (addF x.log ⟨x.term, s⟩).1 } (addF x.log ⟨x.term, s⟩).1.length)).1, 0) from rfl)
  generalize addF x.log ⟨x.term, s⟩ = r at *
  obtain ⟨es, ef⟩ := r
  simp only at hal HAN HLA
  have HL := Lib.hid hL
  have HS := Lib.hid hS
  have HB := Lib.hid hB
  have HX := Lib.hid (And.intro hn0 (And.intro hn7 (And.intro hid0 (And.intro hid hpl))))
  have HAL := Lib.hid (show es.length ≤ 1048576 by omega)
  clear hL hS h hB hn0 hn7 hid0 hid hpl hl hal
  go_enter Try.func60, Try.ntmps60
  go_upto_region 1 with (fail)
  go_cut [5] (fun v wx => v = .int .i64 (ef : Int) ∧ NMoves w base g S { x with log := es } wx)
  case first =>
    go_region_with (refine (HLA.out _ (by first | exact (Below.refl _ _).drew | exact Below.refl _ _)).mono ?_; rintro e w3 ⟨rfl, hm⟩)
    all_goals
      have h9 := NMoves.logged (HL.out.on ((Below.refl w.heap.size w).drew)) HS.out hm
      go_wp2_with fail
      go_meet
      exact ⟨rfl, NMoves.trans (S1 := S) (w1 := w.drew) (Turn.of_below ((Below.refl _ _).drew)) (fun _ hk => .inl hk) h9⟩
  case rest =>
    obtain ⟨rfl, hm⟩ := hcut
    obtain ⟨S1, hna, htu, hsu⟩ := hm
    have HNA := Lib.hid hna
    have HTU := Lib.hid htu
    have HSU := Lib.hid hsu
    clear hna htu hsu c0 c1 c2 c3 c4 c5 c6 c7
    by_cases hf : ef = 0
    · subst hf
      have han := HAN.out
      rw [if_neg (by simp)] at han
      have HA2 := Lib.hid han
      clear han HAN
      go_wp2_with fail
      refine (nLast_any base g _ S1 wc HNA.out HX.out.1 HAL.out).mono ?_
      rintro e w1 ⟨rfl, rfl⟩
      simp only
      go_wp2_with fail
      refine (unsaved_any base g _ (es.length : Int) S1 w1 HNA.out).mono ?_
      rintro e w2 ⟨rfl, S2, hna2, htu2, hsu2⟩
      have HT2 := Lib.hid (HTU.out.trans htu2 HSU.out)
      have hz2 := HT2.out.size
      have HS2 := Lib.hid (show ∀ i, S2 i → S i ∨ (w.heap.size ≤ i ∧ i < w2.heap.size) from fun i hi => by
        rcases hsu2 i hi with h1 | h1
        · rcases HSU.out i h1 with h2 | h2
          · exact .inl h2
          · exact .inr ⟨h2.1, Nat.lt_of_lt_of_le h2.2 htu2.size⟩
        · exact .inr ⟨Nat.le_trans HTU.out.size h1.1, h1.2⟩)
      obtain ⟨u1, u2, u3, u4⟩ := unsavedF_same { x with log := es } (es.length : Int)
      have HCM := Lib.hid (commitMost_any base g _ S2 w2 hna2 (by rw [u2]; exact HX.out.1) (by rw [u2]; exact HX.out.2.1) (by rw [u1]; exact HX.out.2.2.1) (by rw [u1, u2]; exact HX.out.2.2.2.1) (by rw [u3, u2]; exact HX.out.2.2.2.2) (by rw [u4]; exact HAL.out) (Nat.le_trans HB.out hz2))
      clear hna2 htu2 hsu2 u1 u2 u3 u4 hz2
      go_wp2_with fail
      refine HCM.out.mono ?_
      rintro e w3 ⟨rfl, hm3⟩
      have HM3 := Lib.hid (NMoves.trans HT2.out HS2.out hm3)
      clear hm3
      go_wp2_with fail
      go_ret
      rw [HA2.out]
      exact ⟨rfl, HM3.out⟩
    · have han := HAN.out
      rw [if_pos hf] at han
      have HA2 := Lib.hid han
      have hf1 : ¬ (ef : Int) = 0 := by omega
      have hf2 : ((ef : Int) != 0) = true := bne_iff_ne.2 hf1
      have hf3 : ((ef : Int) == 0) = false := by rw [beq_eq_false_iff_ne]; exact hf1
      clear han HAN hf
      go_wp2_with fail
      go_ret
      rw [HA2.out]
      exact ⟨rfl, S1, HNA.out, HTU.out, HSU.out⟩
end Go.Proofs.Ytlggkeoihpcdiaa

/- The walk of slices.Repeat for a leader's knowledge of few nodes; 'copy' of elements of several cells. -/
namespace Go.Proofs.Ytlggkeoihpcdiaa
open Go.RowKit

/-- copy, of elements of so many cells, into a row that is known -/
theorem run_copyN {P : Program} (w : World) (dT sT ty elem : TypeId) (i : TypeInfo) (hu : P.underlying dT = some (.slice elem)) (hi : P.info? elem = some i) (g off dLen dCap : Nat) (ad : Addr) (sLen sCap m : Nat) (hm : Nat.min sLen dLen = m)
    (news : List Value) (hl : news.length = m * i.size) (hnews : ∀ j u, news[j]? = some u → w.cell? (ad.add j) = some u) (h1 : ∀ u ∈ news, u.oneCell' = true) (t : TypeId) (cur : Array Value) (hb : Blk w g t cur) (hfit : off + news.length ≤ cur.size) :
    (Builtin.copy_ #[dT, sT] ty #[.slice (some ⟨g, off, none⟩) dLen dCap, .slice (some ad) sLen sCap]).run P w = .ok (goInt m) (w.setCells g off news) := by
  have hst := run_storeCells_cells (P := P) g off news 0 w (fun j hj => by rw [hb.cell, Array.getElem?_eq_getElem (by omega)]; rfl) (fun j hj => hb.frozen _) h1
  simp only [Nat.add_zero] at hst
  have hfc := run_firstCells_some (P := P) w i.size m ad sLen sCap news hl hnews
  subst hm
  simp [Builtin.copy_, run_underlying hu, sizeOf, typeInfo, hi, Builtin.lenOf, hfc, hst]

theorem wpList_copyN {P : Program} {w : World} {ops : Array Oper} {rest : List Oper} {o : Oper} {a : Act} {Q : Exit → Act → World → Prop} (hgd : o.guard = none) (d s : Operand) (dT sT : TypeId)
    (ho : o.op = .call { callee := .builtin .copy, args := #[d, s], argTypes := #[dT, sT] }) (elem : TypeId) (i : TypeInfo) (hu : P.underlying dT = some (.slice elem)) (hi : P.info? elem = some i) (g off dLen dCap : Nat) (ad : Addr) (sLen sCap m : Nat) (hd : a.eval d = .slice (some ⟨g, off, none⟩) dLen dCap) (hs : a.eval s = .slice (some ad) sLen sCap) (hm : Nat.min sLen dLen = m)
    (news : List Value) (hl : news.length = m * i.size) (hnews : ∀ j u, news[j]? = some u → w.cell? (ad.add j) = some u) (h1 : ∀ u ∈ news, u.oneCell' = true) (t : TypeId) (cur : Array Value) (hb : Blk w g t cur) (hfit : off + news.length ≤ cur.size)
    (h : wpList P ops Q rest (a.put o.dst (goInt m)) (w.setCells g off news)) : wpList P ops Q (o :: rest) a w := by
  refine wpList_plain hgd fun K hK => ?_
  have hrun := run_copyN (P := P) w dT sT o.type elem i hu hi g off dLen dCap ad sLen sCap m hm news hl hnews h1 t cur hb hfit
  unfold Oper.wp
  simp [execOp, ho, resolve, invoke, builtin, hd, hs, hrun, Result.andThen]
  exact hK _ _ h
theorem step_copyN {P : Program} {ops : Array Oper} {o : Oper} {a : Act} {w : World} {K : Act → World → Prop} {Q : Exit → Act → World → Prop} {E : Prop} (hgd : o.guard = none) (d s : Operand) (dT sT : TypeId)
    (ho : o.op = .call { callee := .builtin .copy, args := #[d, s], argTypes := #[dT, sT] }) (elem : TypeId) (i : TypeInfo) (hu : P.underlying dT = some (.slice elem)) (hi : P.info? elem = some i) (g off dLen dCap : Nat) (ad : Addr) (sLen sCap m : Nat) (hd : a.eval d = .slice (some ⟨g, off, none⟩) dLen dCap) (hs : a.eval s = .slice (some ad) sLen sCap) (hm : Nat.min sLen dLen = m)
    (news : List Value) (hl : news.length = m * i.size) (hnews : ∀ j u, news[j]? = some u → w.cell? (ad.add j) = some u) (h1 : ∀ u ∈ news, u.oneCell' = true) (t : TypeId) (cur : Array Value) (hb : Blk w g t cur) (hfit : off + news.length ≤ cur.size)
    (h : K (a.put o.dst (goInt m)) (w.setCells g off news)) : if Region.wanted o (yielded ops a.tmps) = true then Oper.wp P o a w K Q else E := by
  have hw : Region.wanted o (yielded ops a.tmps) = true := by simp [Region.wanted, hgd]
  rw [if_pos hw]
  have hrun := run_copyN (P := P) w dT sT o.type elem i hu hi g off dLen dCap ad sLen sCap m hm news hl hnews h1 t cur hb hfit
  unfold Oper.wp
  simp [execOp, ho, resolve, invoke, builtin, hd, hs, hrun, Result.andThen]
  exact h

set_option maxRecDepth 100000 in
theorem mul_few (n : Nat) (hn : n ≤ 7) (w : World) :
    Calls Try.prog 130 #[.int .u64 1, .int .u64 (n : Int)] w fun e w' => e = .returned (.tuple #[.int .u64 0, .int .u64 (n : Int)]) ∧ w' = w := by
  have h : n = 0 ∨ n = 1 ∨ n = 2 ∨ n = 3 ∨ n = 4 ∨ n = 5 ∨ n = 6 ∨ n = 7 := by omega
  rcases h with rfl | rfl | rfl | rfl | rfl | rfl | rfl | rfl
  all_goals
    go_enter Try.func130, Try.ntmps130
    go_wp2
    go_ret2
    exact ⟨rfl, rfl⟩
theorem peer_row : (Try.prog.info? 152).map (fun i => (i.zero, i.size, i.bytes)) = some (some (.agg #[.int .i64 0, .int .i64 0]), 2, 16) := by kernel_rfl
theorem speer_u : Try.prog.underlying 107 = some (.slice 152) := Try.underlying107
theorem peer_size (W : World) : (sizeOf (Try.prog.elem 107)).run Try.prog W = .ok 2 W := by go_simp
theorem peers_from (A : Option Addr) (n c k : Nat) (z : Int) (hz : z = (k : Int)) (hk : k ≤ n) (W : World) :
    (Instr.slice 107 (.slice A n c) (some (.int .i64 z)) none none).run Try.prog W = .ok (.slice (if c = k then A else A.map (·.add (k * 2))) (n - k) (c - k)) W := by
  subst hz
  have hr := run_slice_l (P := Try.prog) (w := W) 107 A n c (by kernel_rfl) .i64 (k : Int) (by omega) (by omega)
  rw [hr, peer_size]
  simp only [Result.andThen, sliced, Int.toNat_natCast]
theorem peers_upto (A : Option Addr) (n c k : Nat) (z : Int) (hz : z = (k : Int)) (hk : k ≤ c) (W : World) :
    (Instr.slice 107 (.slice A n c) none (some (.int .i64 z)) none).run Try.prog W = .ok (.slice A k c) W := by
  subst hz
  have hr := run_slice_h (P := Try.prog) (w := W) 107 A n c (by kernel_rfl) .i64 (k : Int) (by omega) (by omega)
  rw [hr, peer_size]
  simp only [Result.andThen, sliced, Nat.zero_mul, add_zero_map, ite_self, Int.toNat_natCast, Nat.sub_zero]
theorem pcs_length (ps : List PeerM) : (pcs ps).length = ps.length * 2 := by
  induction ps with
  | nil => rfl
  | cons y ml ih => rw [show pcs (y :: ml) = y.cells ++ pcs ml from by simp [pcs], List.length_append, ih]; simp [PeerM.cells]; omega

/-- the first k of n are filled -/
def rowK (p : PeerM) (n k : Nat) : List PeerM := List.replicate k p ++ List.replicate (n - k) ⟨0, 0⟩
theorem rowK_length (p : PeerM) {n k : Nat} (hk : k ≤ n) : (rowK p n k).length = n := by simp [rowK]; omega
theorem pcs_append (a b : List PeerM) : pcs (a ++ b) = pcs a ++ pcs b := by simp [pcs]
/-- m more -/
theorem blk_fill {w : World} {q : Nat} {p : PeerM} {n k m : Nat} (hb : Blk w q 152 (pcs (rowK p n k)).toArray) (hkm : k + m ≤ n) : Blk (w.setCells q (k * 2) (pcs (List.replicate m p))) q 152 (pcs (rowK p n (k + m))).toArray := by
  have hl : (pcs (List.replicate m p)).length = m * 2 := by rw [pcs_length, List.length_replicate]
  have hn : (pcs (rowK p n k)).toArray.size = n * 2 := by simp only [List.size_toArray]; rw [pcs_length, rowK_length p (by omega)]
  obtain ⟨cur', h1, h2, h3, h4⟩ := Blk.sets (pcs (List.replicate m p)) (k * 2) w _ hb (by rw [hl, hn]; omega)
  have e : cur' = (pcs (rowK p n (k + m))).toArray := by
    apply Array.ext_getElem?
    intro j
    have hs : pcs (rowK p n (k + m)) = pcs (List.replicate k p) ++ (pcs (List.replicate m p) ++ pcs (List.replicate (n - (k + m)) ⟨0, 0⟩)) := by
      unfold rowK
      rw [← List.replicate_append_replicate, List.append_assoc, pcs_append, pcs_append]
    have ho : pcs (rowK p n k) = pcs (List.replicate k p) ++ (pcs (List.replicate m ⟨0, 0⟩) ++ pcs (List.replicate (n - (k + m)) ⟨0, 0⟩)) := by
      unfold rowK
      rw [show n - k = m + (n - (k + m)) from by omega, ← List.replicate_append_replicate, pcs_append, pcs_append]
    have hk2 : (pcs (List.replicate k p)).length = k * 2 := by rw [pcs_length, List.length_replicate]
    have hm0 : (pcs (List.replicate m (⟨0, 0⟩ : PeerM))).length = m * 2 := by rw [pcs_length, List.length_replicate]
    by_cases hj : j < k * 2 ∨ k * 2 + m * 2 ≤ j
    · rw [h3 j (by rw [hl]; exact hj)]
      simp only [List.getElem?_toArray]
      rw [hs, ho]
      rcases hj with hj | hj
      · rw [List.getElem?_append_left (by omega), List.getElem?_append_left (by omega)]
      · rw [List.getElem?_append_right (by omega), List.getElem?_append_right (by omega), List.getElem?_append_right (by omega), List.getElem?_append_right (by omega), hl, hm0]
    · have h5 := h4 (j - k * 2) (by omega)
      rw [show k * 2 + (j - k * 2) = j from by omega] at h5
      rw [h5]
      simp only [List.getElem?_toArray]
      rw [hs, List.getElem?_append_right (by omega), List.getElem?_append_left (by omega), hk2]
  rw [← e]
  exact h1

set_option maxRecDepth 100000 in
set_option maxHeartbeats 1600000 in
theorem repeat_any (q c n : Nat) (p : PeerM) (w : World) (h0 : w.cell? ⟨q, 0, none⟩ = some (.int .i64 p.has)) (h1 : w.cell? ⟨q, 1, none⟩ = some (.int .i64 p.next)) (hn1 : 1 ≤ n) (hn7 : n ≤ 7) :
    Calls Try.prog 121 #[.slice (some ⟨q, 0, none⟩) 1 c, .int .i64 (n : Int)] w fun e w' => ∃ g, e = .returned (.slice (some ⟨g, 0, none⟩) n n) ∧ w.heap.size ≤ g ∧ Blk w' g 152 (pcs (List.replicate n p)).toArray ∧ Below w.heap.size w w' := by
  have HM := Lib.hid (mul_few n hn7)
  obtain ⟨i0, hi0, hz0, hz1, hz2⟩ := info_parts peer_row
  have hmk : ∀ W, (Instr.makeSlice 107 (.int .i64 (n : Int)) (.int .i64 (n : Int))).run Try.prog W = .ok (.slice (some ⟨W.heap.size, 0, none⟩) n n) (W.alloc (.cells (pcs (rowK p n 0)).toArray 152)) := fun W => by
    have h := run_make (P := Try.prog) W 107 152 i0 _ speer_u hi0 hz0 .i64 .i64 (n : Int) (n : Int) (by omega) (Int.le_refl _) (by rw [hz2]; omega) (by omega)
    rw [Int.toNat_natCast, hz1] at h
    have hm : madeCells (Value.agg #[.int .i64 0, .int .i64 0]).cells (n * 2) = (pcs (rowK p n 0)).toArray := by
      have h : n = 1 ∨ n = 2 ∨ n = 3 ∨ n = 4 ∨ n = 5 ∨ n = 6 ∨ n = 7 := by omega
      rcases h with rfl | rfl | rfl | rfl | rfl | rfl | rfl <;> (apply Array.toList_inj.1; simp [madeCells, rowK, pcs, PeerM.cells, Value.cells, List.range_succ, List.replicate_succ])
    rw [hm] at h
    exact h
  have hn0 : ¬ (n : Int) < 0 := by omega
  have hw1 : IntKind.u64.wrap (n : Int) = (n : Int) := toNat_u64 (by omega)
  have hw2 : IntKind.i64.wrap (n : Int) = (n : Int) := wr_i64 (by omega) (by omega)
  have hw3 : ¬ (9223372036854775807 : Int) < (n : Int) := by omega
  have HN := Lib.hid (And.intro hn1 hn7)
  clear hn1 hn7
  have HB1 := Lib.hid ((Below.refl w.heap.size w).alloc (Nat.le_refl _) (.cells (pcs (rowK p n 0)).toArray 152))
  have HR1 := Lib.hid (Blk.new w 152 (pcs (rowK p n 0)).toArray)
  have hsrc : ∀ (j : Nat) u, (pcs (List.replicate 1 p))[j]? = some u → (w.alloc (.cells (pcs (rowK p n 0)).toArray 152)).cell? ((⟨q, 0, none⟩ : Addr).add j) = some u := fun j u hu => by
    have hq : q < w.heap.size := by
      have := World.block_lt_of_cell? w _ h0
      simpa using this
    rw [Addr.add_lit, Nat.zero_add, HB1.out.cell (p := ⟨q, j, none⟩) hq]
    match j, hu with
    | 0, hu => injection hu with hu; rw [← hu]; exact h0
    | 1, hu => injection hu with hu; rw [← hu]; exact h1
  obtain ⟨nw, hnw⟩ : ∃ nw, nw = pcs (List.replicate 1 p) := ⟨_, rfl⟩
  rw [← hnw] at hsrc
  have HSRC := Lib.hid hsrc
  have HNW := Lib.hid hnw
  clear hnw
  have hsz : (pcs (rowK p n 0)).toArray.size = n * 2 := by simp only [List.size_toArray]; rw [pcs_length, rowK_length p (Nat.zero_le _)]
  have HSZ := Lib.hid hsz
  clear hsrc hsz h0 h1
  go_enter Try.func121, Try.ntmps121
  go_wp2_with (first
    | (refine (HM.out _).mono ?_; rintro e w1 ⟨rfl, rfl⟩)
    | (go_loud (
         refine wpList_copyN rfl (.tmp 31) (.tmp 32) _ _ rfl 152 i0 speer_u hi0 w1.heap.size 0 n n ⟨q, 0, none⟩ 1 c 1 rfl rfl (Nat.min_eq_left HN.out.1) nw (by rw [HNW.out, pcs_length, hz1]; rfl) HSRC.out (by rw [HNW.out]; exact pcs_one _) 152 _ HR1.out (by rw [HNW.out, pcs_length, HSZ.out]; have := HN.out.1; simp; omega) ?_
         have hr2 := blk_fill (p := p) (k := 0) (m := 1) HR1.out (by have := HN.out.1; omega)
         rw [← HNW.out] at hr2
         have HR2 := Lib.hid hr2
         have HB2 := Lib.hid (HB1.out.grown (gb_sets nw 0 _ (gb_refl _ (some w1.heap.size))) HB1.out.size (fun k e => by injection e with e; omega))
         clear hr2)))
  have hr2 := HR2.out
  have hb2 := HB2.out
  rw [Nat.zero_mul] at hr2
  rw [Nat.zero_add] at hr2
  clear HR2 HB2
  generalize ((w1.alloc (.cells (pcs (rowK p n 0)).toArray 152)).setCells w1.heap.size 0 nw) = w2 at *
  have HR2 := Lib.hid hr2
  have HB2 := Lib.hid hb2
  clear hr2 hb2
  go_loopw [8] (fun v wr => ∃ k : Nat, 1 ≤ k ∧ k ≤ n ∧ v = .int .i64 (k : Int) ∧ Blk wr w1.heap.size 152 (pcs (rowK p n k)).toArray ∧ Below w1.heap.size w1 wr) (fun v _ => n - (intOf v).toNat)
  case atStart => exact ⟨1, Nat.le_refl _, HN.out.1, rfl, HR2.out, HB2.out⟩
  case round =>
    obtain ⟨k, hk1, hk, rfl, hblk, hbel⟩ := hrel
    by_cases hlt : k < n
    · have hlt' : (k : Int) < (n : Int) := by omega
      obtain ⟨m, hm⟩ : ∃ m, Nat.min k (n - k) = m := ⟨_, rfl⟩
      have hmk : k + m ≤ n ∧ 1 ≤ m ∧ m ≤ k := by
        have h1 : m ≤ k := by rw [← hm]; exact Nat.min_le_left _ _
        have h2 : m ≤ n - k := by rw [← hm]; exact Nat.min_le_right _ _
        have h3 : 1 ≤ m := by rw [← hm]; exact Nat.le_min.2 ⟨hk1, by omega⟩
        omega
      have hs1 := fun W => peers_from (some ⟨w1.heap.size, 0, none⟩) n n k (k : Int) rfl hk W
      rw [if_neg (by omega), show (some (⟨w1.heap.size, 0, none⟩ : Addr)).map (·.add (k * 2)) = some ⟨w1.heap.size, k * 2, none⟩ from by simp [Addr.add_lit]] at hs1
      have hs2 := fun W => peers_upto (some ⟨w1.heap.size, 0, none⟩) n n k (k : Int) rfl hk W
      have HSR := Lib.hid (fun (W : World) (hW : Blk W w1.heap.size 152 (pcs (rowK p n k)).toArray) (j : Nat) u (hu : (pcs (List.replicate m p))[j]? = some u) => (show W.cell? ((⟨w1.heap.size, 0, none⟩ : Addr).add j) = some u by
        rw [Addr.add_lit, Nat.zero_add, hW.cell]
        simp only [List.getElem?_toArray]
        have e : rowK p n k = List.replicate m p ++ (List.replicate (k - m) p ++ List.replicate (n - k) ⟨0, 0⟩) := by
          unfold rowK
          rw [← List.append_assoc, List.replicate_append_replicate, show m + (k - m) = k from by omega]
        have hj : j < (pcs (List.replicate m p)).length := (List.getElem?_eq_some_iff.1 hu).1
        rw [e, pcs_append, List.getElem?_append_left hj]
        exact hu))
      have hk7 : (k : Int) ≤ 7 := by have := HN.out; omega
      have hm7 : (m : Int) ≤ 7 := by have := HN.out; omega
      have HBK := Lib.hid hblk
      have HBE := Lib.hid hbel
      have HK := Lib.hid (And.intro hk1 (And.intro hlt hmk))
      have HM2 := Lib.hid hm
      have hw4 : IntKind.i64.wrap ((k : Int) + (m : Int)) = (k : Int) + (m : Int) := wr_i64 (by omega) (by omega)
      have hsz : (pcs (rowK p n k)).toArray.size = n * 2 := by simp only [List.size_toArray]; rw [pcs_length, rowK_length p hk]
      have HSZ2 := Lib.hid hsz
      clear hblk hbel hk1 hlt hmk hm hsz hk
      go_upto_region 9 with (fail)
      go_region_law (
        refine step_copyN rfl (.tmp 41) (.tmp 44) 107 107 rfl 152 i0 speer_u hi0 w1.heap.size (k * 2) (n - k) (n - k) ⟨w1.heap.size, 0, none⟩ k n m (by simp [Act.eval, Act.put]) (by simp [Act.eval, Act.put]) HM2.out (pcs (List.replicate m p)) (by rw [pcs_length, hz1, List.length_replicate]) (HSR.out _ (by exact HBK.out)) (pcs_one _) 152 _ (by exact HBK.out) (by rw [pcs_length, HSZ2.out, List.length_replicate]; have := HK.out; omega) ?_)
      all_goals
        have hr3 := blk_fill HBK.out.drew HK.out.2.2.1
        have hb3 : Below w1.heap.size w1 (wr.drew.setCells w1.heap.size (k * 2) (pcs (List.replicate m p))) := HBE.out.drew.grown (gb_sets (pcs (List.replicate m p)) (k * 2) _ (gb_refl _ (some w1.heap.size))) HBE.out.drew.size (fun k e => by injection e with e; omega)
        have HR3 := Lib.hid hr3
        have HB3 := Lib.hid hb3
        clear hr3 hb3
        simp [Act.put]
        go_wp2_with fail
        go_roundw
        case rel => exact ⟨k + m, by have := HK.out; omega, HK.out.2.2.1, by go_num, HR3.out, HB3.out⟩
        case measure => have := HK.out; simp [intOf]; omega
    · have hlt' : ¬ (k : Int) < (n : Int) := by omega
      obtain rfl : k = n := by omega
      have e : rowK p k k = List.replicate k p := by unfold rowK; rw [Nat.sub_self]; simp
      rw [e] at hblk
      have HBK := Lib.hid hblk
      have HBE := Lib.hid hbel
      clear hblk hbel e hk hlt
      go_wp2_with fail
      go_ret
      exact ⟨w1.heap.size, rfl, Nat.le_refl _, HBK.out, HBE.out⟩
end Go.Proofs.Ytlggkeoihpcdiaa
