/- Package route: which splits may be, by the program and by the document; a copy of texts; a map's shards, splits and ranges. -/
import Derived.Test.YtgioaapflilhhabRt1
import Derived.OwnWalk
namespace Go.Proofs.Ytgioaapflilhhab
open Go.RowKit

theorem badS_parts {s : ByteArray} (h : badS s = false) : ((s.size : Int) == 0) = false ∧ ¬ (16 : Int) < (s.size : Int) := by
  simp only [badS, Bool.or_eq_false_iff, decide_eq_false_iff_not] at h
  exact ⟨by rw [beq_eq_false_iff_ne]; omega, by omega⟩
theorem badS_true {s : ByteArray} (h : badS s = true) : ((s.size : Int) == 0) = true ∨ (((s.size : Int) == 0) = false ∧ (16 : Int) < (s.size : Int)) := by
  simp only [badS, Bool.or_eq_true, decide_eq_true_eq] at h
  rcases h with h | h
  · exact .inl (by simp [h])
  · exact .inr ⟨by rw [beq_eq_false_iff_ne]; omega, by omega⟩
theorem lt_raw {a b : ByteArray} {t : Bool} (h : ltS a b = t) : Op.bytesLess a.toList b.toList = t := h
theorem le_raw {a b : ByteArray} (h : ltS b a = true) : (Op.bytesLess a.toList b.toList || a.toList == b.toList) = false := by
  have := leS_eq a b
  rw [h] at this
  exact this
theorem gt_raw {a b : ByteArray} (h : ltS b a = false) : (Op.bytesLess a.toList b.toList || a.toList == b.toList) = true := by
  have := leS_eq a b
  rw [h] at this
  exact this

set_option maxHeartbeats 1600000 in
/-- the document's Right -/
theorem right_any (A : Option Addr) (n c : Nat) (l : List ByteArray) (w : World) (B : Nat) (hs : Sees w B A n (txs l)) (hn : n ≤ maxLen) :
    Calls Try.prog 10 #[.slice A n c] w fun e w' => e = .returned (.int .i64 (rightF l)) ∧ Below w.heap.size w w' := by
  obtain rfl : l.length = n := by have := hs.1; rwa [txs_length] at this
  unfold maxLen at hn
  by_cases h7 : 7 < l.length
  · have h7' : (7 : Int) < (l.length : Int) := by omega
    go_enter Try.func10, Try.ntmps10
    go_wp2_with fail
    go_ret
    exact ⟨ret_i64 (rightF_full h7).symm, Below.refl _ _⟩
  · have h7' : ¬ (7 : Int) < (l.length : Int) := by omega
    have HS := Lib.hid hs
    have H7 := Lib.hid h7
    clear hs h7
    go_enter Try.func10, Try.ntmps10
    go_wp2_with fail
    go_loop [11] (fun i => ∃ k : Nat, k ≤ l.length ∧ i = .int .i64 (k : Int) ∧ ∀ (j : Nat) (hj : j < l.length), j < k → badS l[j] = false) (fun i => l.length - (intOf i).toNat)
    case atStart => exact ⟨0, Nat.zero_le _, rfl, fun _ _ h => absurd h (by omega)⟩
    case round =>
      obtain ⟨k, hk, rfl, hall⟩ := hrel
      have HALL := Lib.hid hall
      clear hall
      by_cases hlt : k < l.length
      · obtain ⟨b, off, rfl, hb, hcell⟩ := HS.out.txt hlt
        obtain ⟨x, hx⟩ : ∃ x, l[k] = x := ⟨_, rfl⟩
        rw [hx] at hcell
        have HX := Lib.hid hx
        clear hx hb
        have hlt' : (k : Int) < (l.length : Int) := by omega
        cases hbad : badS x with
        | true =>
          rcases badS_true hbad with h1 | ⟨h1, h2⟩
          all_goals
            have HBAD := Lib.hid hbad
            clear hbad
            go_wp2_with fail
            go_ret
            exact ⟨ret_i64 (rightF_arg H7.out k hlt (by rw [HX.out]; exact HBAD.out)).symm, Below.refl _ _⟩
        | false =>
          obtain ⟨h1, h2⟩ := badS_parts hbad
          have HBAD := Lib.hid hbad
          clear hbad
          go_wp2_with fail
          go_round
          case rel => exact ⟨k + 1, by omega, by go_num, fun j hj hjk => by
            by_cases e : j = k
            · subst e; rw [HX.out]; exact HBAD.out
            · exact HALL.out j hj (by omega)⟩
          case measure => simp [intOf]; omega
      · have hge : ¬ (k : Int) < (l.length : Int) := by omega
        have HA := Lib.hid (good_all (l := l) fun j hj => HALL.out j hj (by omega))
        clear HALL
        go_wp2_with fail
        go_loopw [5] (fun i wr => ∃ k : Nat, 1 ≤ k ∧ i = .int .i64 (k : Int) ∧ (∃ q, wr = w.drewN q) ∧ k ≤ l.length + 1 ∧ ∀ (j : Nat) (hj : j + 1 < l.length), j + 1 < k → ltS l[j] l[j + 1] = true) (fun i _ => l.length - (intOf i).toNat)
        case atStart => exact ⟨1, Nat.le_refl _, rfl, ⟨0, rfl⟩, by omega, fun _ _ h => absurd h (by omega)⟩
        case round =>
          obtain ⟨p, hp1, rfl, ⟨q, rfl⟩, hp2, hall⟩ := hrel
          have HALL := Lib.hid hall
          clear hall
          by_cases hltp : p < l.length
          · obtain ⟨p, rfl⟩ : ∃ p', p = p' + 1 := ⟨p - 1, by omega⟩
            obtain ⟨b, off, rfl, hb, hcell⟩ := HS.out.txt hltp
            obtain ⟨b', off', hA', hb', hcell2⟩ := HS.out.txt (show p < l.length by omega)
            injection hA' with hA'
            injection hA' with hA1 hA2
            subst hA1
            subst hA2
            obtain ⟨y, hy⟩ : ∃ y, l[p + 1] = y := ⟨_, rfl⟩
            obtain ⟨x, hx⟩ : ∃ x, l[p]'(by omega) = x := ⟨_, rfl⟩
            rw [hx] at hcell2
            rw [hy] at hcell
            have HX := Lib.hid hx
            have HY := Lib.hid hy
            have hlt1 : (p : Int) + 1 < (l.length : Int) := by omega
            have hlt0 : (p : Int) < (l.length : Int) := by omega
            have hq1 : IntKind.i64.wrap ((p : Int) + 1 - 1) = (p : Int) := by rw [IntKind.wrap_i64]; omega
            have hc1 : ((p + 1 : Nat) : Int) = (p : Int) + 1 := by omega
            have HP := Lib.hid hltp
            clear hx hy hb hb' hp1 hp2 hge
            cases hxy : ltS x y with
            | false =>
              have hr := lt_raw hxy
              have HXY := Lib.hid hxy
              clear hxy
              go_wp2_with fail
              go_quiet (fail)
              go_wp2_with fail
              go_ret
              exact ⟨ret_i64 (rightF_range H7.out HA.out p HP.out (by rw [HX.out, HY.out]; exact HXY.out)).symm, below_drewN (below_drewN (Below.refl _ _) _) _⟩
            | true =>
              have hr := lt_raw hxy
              have HXY := Lib.hid hxy
              clear hxy
              go_wp2_with fail
              go_quiet (fail)
              go_wp2_with fail
              go_roundw
              case rel => exact ⟨p + 2, by omega, by go_num, ⟨_, by first | rfl | (simp [World.drewN]; rfl)⟩, by have := HP.out; omega, fun j hj hjk => by
                by_cases e : j = p
                · subst e; rw [HX.out, HY.out]; exact HXY.out
                · exact HALL.out j hj (by omega)⟩
              case measure => have := HP.out; simp [intOf]; omega
          · have hgep : ¬ (p : Int) < (l.length : Int) := by omega
            go_wp2_with fail
            go_ret
            exact ⟨ret_i64 (rightF_ok H7.out HA.out (fun j hj => HALL.out j hj (by omega))).symm, below_drewN (Below.refl _ _) _⟩

set_option maxHeartbeats 800000 in
/-- the document's Of -/
theorem refOf_any (A : Option Addr) (n c : Nat) (l : List ByteArray) (key : ByteArray) (w : World) (B : Nat) (hs : Sees w B A n (txs l)) (hn : n ≤ maxLen) :
    Calls Try.prog 15 #[.slice A n c, .string key] w fun e w' => e = .returned (.int .i64 (ofF l key : Nat)) ∧ w' = w := by
  obtain rfl : l.length = n := by have := hs.1; rwa [txs_length] at this
  unfold maxLen at hn
  have HS := Lib.hid hs
  clear hs
  go_enter Try.func15, Try.ntmps15
  go_wp2_with fail
  go_loop [5, 10] (fun m i => ∃ k m0 : Nat, k ≤ l.length ∧ i = .int .i64 (k : Int) ∧ m = .int .i64 (m0 : Int) ∧ m0 = (l.take k).countP (fun s => leS s key)) (fun _ i => l.length - (intOf i).toNat)
  case atStart => exact ⟨0, 0, Nat.zero_le _, rfl, rfl, rfl⟩
  case round =>
    obtain ⟨k, m0, hk, rfl, rfl, hm⟩ := hrel
    have hmk : m0 ≤ k := by rw [hm]; exact Nat.le_trans List.countP_le_length (List.length_take_le _ _)
    have HM := Lib.hid hm
    clear hm
    by_cases hlt : k < l.length
    · obtain ⟨b, off, rfl, hb, hcell⟩ := HS.out.txt hlt
      have HT := Lib.hid (show l.take (k + 1) = l.take k ++ [l[k]] by rw [List.take_succ_eq_append_getElem])
      obtain ⟨x, hx⟩ : ∃ x, l[k] = x := ⟨_, rfl⟩
      rw [hx] at hcell HT
      clear hx hb
      have hlt' : (k : Int) < (l.length : Int) := by omega
      cases hxy : ltS key x with
      | true =>
        have hr := le_raw hxy
        have HXY := Lib.hid hxy
        clear hxy
        go_wp2_with fail
        go_round
        case rel => exact ⟨k + 1, m0, by omega, by go_num, rfl, by rw [HT.out, List.countP_append, ← HM.out]; simp [leS_eq, HXY.out]⟩
        case measure => simp [intOf]; omega
      | false =>
        have hr := gt_raw hxy
        have HXY := Lib.hid hxy
        clear hxy
        go_wp2_with fail
        go_round
        case rel => exact ⟨k + 1, m0 + 1, by omega, by go_num, by go_num, by rw [HT.out, List.countP_append, ← HM.out]; simp [leS_eq, HXY.out]⟩
        case measure => simp [intOf]; omega
    · have hge : ¬ (k : Int) < (l.length : Int) := by omega
      go_wp2_with fail
      go_ret
      exact ⟨ret_i64 (by rw [HM.out, List.take_of_length_le (by omega)]; rfl), rfl⟩

/-- the map that lies in block g -/
def MapAt (w : World) (g : Nat) (l : List ByteArray) : Prop := ∃ A c, Blk w g 57 #[.slice A l.length c] ∧ Sees w w.heap.size A l.length (txs l) ∧ FreeN 1 w 0 9 A l.length c (txs l)
theorem MapAt.on {w w' : World} {g : Nat} {l : List ByteArray} (h : MapAt w g l) (hb : Below w.heap.size w w') : MapAt w' g l := by
  obtain ⟨A, c, h1, h2, h3⟩ := h
  exact ⟨A, c, h1.below hb h1.lt, h2.on hb, h3.on hb⟩
theorem MapAt.lt {w : World} {g : Nat} {l : List ByteArray} (h : MapAt w g l) : g < w.heap.size := by
  obtain ⟨A, c, h1, _⟩ := h
  exact h1.lt
/-- a map is as it was where blocks of other types have turned -/
theorem MapAt.grown {w w' : World} {g : Nat} {l : List ByteArray} {row : Option Nat} (h : MapAt w g l) (hg : w.grownBy w' row) (hr : ∀ b, row = some b → ∃ ty cs, Blk w b ty cs ∧ ty ≠ 57 ∧ ty ≠ 9) : MapAt w' g l := by
  obtain ⟨A, c, h1, _, h3⟩ := h
  have k3 : FreeN 1 w' 0 9 A l.length c (txs l) := h3.grown hg (fun k hk e => by
    obtain ⟨ty, cs, hb, _, h5⟩ := hr k e.symm
    obtain ⟨_, cur, hB⟩ := h3.foot_at k hk
    exact hB.apart hb (Ne.symm h5) rfl)
  refine ⟨A, c, h1.grown hg (fun e => ?_), ?_, k3⟩
  · obtain ⟨ty, cs, hb, h5, _⟩ := hr g e.symm
    exact h1.apart hb (Ne.symm h5) rfl
  · have := k3.sees
    rwa [Nat.mul_one] at this

set_option maxRecDepth 100000 in
set_option maxHeartbeats 400000 in
/-- slices.Clone of texts -/
theorem sclone_any (A : Option Addr) (n c : Nat) (l : List ByteArray) (w : World) (hs : Sees w w.heap.size A n (txs l)) (hn : n ≤ 1099511627776) :
    Calls Try.prog 25 #[.slice A n c] w fun e w' => ∃ A' c', e = .returned (.slice A' n c') ∧ FreeN 1 w' w.heap.size 9 A' n c' (txs l) ∧ Below w.heap.size w w' := by
  obtain ⟨i0, hi0, hz0, hz1, hz2⟩ := info_parts str_row
  obtain rfl : l.length = n := by have := hs.1; rwa [txs_length] at this
  rcases A with _ | a
  · have hn0 : l = [] := by
      cases l with
      | nil => rfl
      | cons e es =>
        obtain ⟨_, _, h1, _⟩ := hs.txt (k := 0) (by simp)
        cases h1
    subst hn0
    have heq := fun W => Lib.run_eql_slice_nil (P := Try.prog) W 22 9 none 0 c 0 0 sl_txt
    go_enter Try.func25, Try.ntmps25
    go_wp2_with fail
    go_ret
    exact ⟨none, 0, rfl, FreeN.nil _ _ _ _, Below.refl _ _⟩
  · have heq := fun W => Lib.run_eql_slice_nil (P := Try.prog) W 22 9 (some a) l.length c 0 0 sl_txt
    go_enter Try.func25, Try.ntmps25
    have hc1 : 0 + l.length ≤ maxLen := by rw [Nat.zero_add]; exact Nat.le_trans hn (by decide)
    have hc2 : (0 + l.length) * 16 ≤ 140737488355328 := by omega
    have hs' : Sees w w.heap.size (some a) (l.length * 1) (txs l) := by rwa [Nat.mul_one]
    have hown : FreeN 1 (w.alloc (.cells #[] 9)) w.heap.size 9 (some ⟨w.heap.size, 0, none⟩) 0 0 [] := FreeN.of_own (World.ownsRow_made w _ 0 (Nat.le_refl _) (by decide) rfl)
    go_wp2_with (at_builtin; refine wpList_append_freeN (sz := 1) _ rfl (.tmp 5) (.tmp 6) _ rfl w.heap.size 9 i0 _ 16 sl_txt hi0 hz0 hz1 hz2 rfl (by omega) (some ⟨w.heap.size, 0, none⟩) 0 0 [] rfl hown w.heap.size (some a) l.length c (txs l) rfl (hs'.alloc (Nat.le_refl _) _) (txs_one _) hc1 hc2 (by simp) ?_; intro A2 c2 w2 ha2)
    go_ret
    obtain ⟨hf2, hg2, _⟩ := ha2
    rw [Nat.zero_add, List.nil_append] at hf2
    refine ⟨A2, c2, rfl, hf2, ((Below.refl _ _).alloc (Nat.le_refl _) _).grown hg2 (by simp) (fun g hg => ?_)⟩
    simp [foot] at hg

set_option maxHeartbeats 400000 in
theorem shards_any (g : Nat) (l : List ByteArray) (w : World) (h : MapAt w g l) (hn : l.length ≤ 7) :
    Calls Try.prog 11 #[.pointer (some ⟨g, 0, none⟩)] w fun e w' => e = .returned (.int .i64 ((l.length : Int) + 1)) ∧ w' = w := by
  obtain ⟨A, c, h1, _⟩ := h
  have c0 : w.cell? ⟨g, 0, none⟩ = some (.slice A l.length c) := by rw [h1.cell]; rfl
  clear h1
  go_enter Try.func11, Try.ntmps11
  go_wp2_with fail
  go_ret
  exact ⟨rfl, rfl⟩
set_option maxHeartbeats 400000 in
theorem shards_nil (w : World) :
    Calls Try.prog 11 #[.pointer none] w fun e w' => e = .returned (.int .i64 0) ∧ w' = w := by
  go_enter Try.func11, Try.ntmps11
  go_wp2_with fail
  go_ret
  exact ⟨rfl, rfl⟩

set_option maxHeartbeats 400000 in
theorem splits_any (g : Nat) (l : List ByteArray) (w : World) (h : MapAt w g l) (hn : l.length ≤ 7) :
    Calls Try.prog 13 #[.pointer (some ⟨g, 0, none⟩)] w fun e w' => ∃ A' c', e = .returned (.slice A' l.length c') ∧ FreeN 1 w' w.heap.size 9 A' l.length c' (txs l) ∧ Below w.heap.size w w' := by
  obtain ⟨A, c, h1, h2, _⟩ := h
  have c0 : w.cell? ⟨g, 0, none⟩ = some (.slice A l.length c) := by rw [h1.cell]; rfl
  have HC := Lib.hid (sclone_any A l.length c l w h2 (by omega))
  clear h1 h2
  go_enter Try.func13, Try.ntmps13
  go_wp2_with fail
  refine HC.out.mono ?_
  rintro e w' ⟨A', c', rfl, h3, h4⟩
  go_wp2_with fail
  go_ret
  exact ⟨A', c', rfl, h3, h4⟩

/-- from where, and to where, a shard goes -/
def lowF (l : List ByteArray) (i : Nat) : ByteArray := if i = 0 then ⟨#[]⟩ else l.getD (i - 1) ⟨#[]⟩
def highF (l : List ByteArray) (i : Nat) : ByteArray := if i < l.length then l.getD i ⟨#[]⟩ else ⟨#[]⟩

set_option maxHeartbeats 800000 in
theorem range_none (g : Nat) (l : List ByteArray) (i : Int) (w : World) (h : MapAt w g l) (hi : i < 0 ∨ (l.length : Int) < i) :
    Calls Try.prog 16 #[.pointer (some ⟨g, 0, none⟩), .int .i64 i] w fun e w' => e = .returned (.tuple #[.string ⟨#[]⟩, .string ⟨#[]⟩, .int .i64 6]) ∧ w' = w := by
  obtain ⟨A, c, h1, _⟩ := h
  have c0 : w.cell? ⟨g, 0, none⟩ = some (.slice A l.length c) := by rw [h1.cell]; rfl
  clear h1
  by_cases hi0 : i < 0
  · go_enter Try.func16, Try.ntmps16
    go_wp2_with fail
    go_ret3
    exact ⟨rfl, rfl⟩
  · have hi1 : (l.length : Int) < i := by omega
    clear hi
    go_enter Try.func16, Try.ntmps16
    go_wp2_with fail
    go_ret3
    exact ⟨rfl, rfl⟩

set_option maxHeartbeats 1600000 in
theorem range_any (g : Nat) (l : List ByteArray) (i : Nat) (w : World) (h : MapAt w g l) (hn : l.length ≤ 7) (hi : i ≤ l.length) :
    Calls Try.prog 16 #[.pointer (some ⟨g, 0, none⟩), .int .i64 (i : Int)] w fun e w' => e = .returned (.tuple #[.string (lowF l i), .string (highF l i), .int .i64 0]) ∧ w' = w := by
  obtain ⟨A, c, h1, h2, _⟩ := h
  have c0 : w.cell? ⟨g, 0, none⟩ = some (.slice A l.length c) := by rw [h1.cell]; rfl
  clear h1
  have hg0 : ¬ (i : Int) < 0 := by omega
  have hg1 : ¬ (l.length : Int) < (i : Int) := by omega
  rcases i with _ | i
  · show Calls Try.prog 16 #[.pointer (some ⟨g, 0, none⟩), .int .i64 0] w _
    clear hg0 hg1
    have hg0 : ¬ (0 : Int) < 0 := by omega
    have hg1 : ¬ (l.length : Int) < 0 := by omega
    by_cases hl : 0 < l.length
    · obtain ⟨b, off, rfl, _, hc⟩ := h2.txt hl
      have hx : l[0] = highF l 0 := by unfold highF; rw [if_pos hl, List.getD_eq_getElem?_getD, List.getElem?_eq_getElem hl]; rfl
      rw [hx, Nat.add_zero] at hc
      generalize highF l 0 = x at *
      have hl' : (0 : Int) < (l.length : Int) := by omega
      clear h2 hx
      go_enter Try.func16, Try.ntmps16
      go_wp2_with fail
      go_ret3
      exact ⟨rfl, rfl⟩
    · have hx : highF l 0 = ⟨#[]⟩ := if_neg hl
      rw [hx]
      have hl' : ¬ (0 : Int) < (l.length : Int) := by omega
      have hl0 : l.length = 0 := by omega
      clear h2 hx
      go_enter Try.func16, Try.ntmps16
      go_wp2_with fail
      go_ret3
      exact ⟨rfl, rfl⟩
  · obtain ⟨b, off, rfl, _, hc⟩ := h2.txt (show i < l.length by omega)
    have hx : l[i]'(by omega) = lowF l (i + 1) := by unfold lowF; rw [if_neg (by omega), List.getD_eq_getElem?_getD, show i + 1 - 1 = i by omega, List.getElem?_eq_getElem (by omega)]; rfl
    rw [hx] at hc
    generalize lowF l (i + 1) = x at *
    have hw1 : IntKind.i64.wrap (((i + 1 : Nat) : Int) - 1) = (i : Int) := by rw [IntKind.wrap_i64]; omega
    have hp1 : (0 : Int) < ((i + 1 : Nat) : Int) := by omega
    have hlt : (i : Int) < (l.length : Int) := by omega
    by_cases hl : i + 1 < l.length
    · obtain ⟨b', off', hA', _, hc2⟩ := h2.txt hl
      injection hA' with hA'
      injection hA' with hA1 hA2
      subst hA1
      subst hA2
      have hy : l[i + 1] = highF l (i + 1) := by unfold highF; rw [if_pos hl, List.getD_eq_getElem?_getD, List.getElem?_eq_getElem hl]; rfl
      rw [hy] at hc2
      generalize highF l (i + 1) = y at *
      have hl' : ((i + 1 : Nat) : Int) < (l.length : Int) := by omega
      have hl2 : (i : Int) + 1 < (l.length : Int) := by omega
      clear h2 hx hy
      go_enter Try.func16, Try.ntmps16
      go_wp2_with fail
      go_ret3
      exact ⟨rfl, rfl⟩
    · have hy : highF l (i + 1) = ⟨#[]⟩ := if_neg hl
      rw [hy]
      have hl' : ¬ ((i + 1 : Nat) : Int) < (l.length : Int) := by omega
      have hl2 : ¬ (i : Int) + 1 < (l.length : Int) := by omega
      clear h2 hx hy
      go_enter Try.func16, Try.ntmps16
      go_wp2_with fail
      go_ret3
      exact ⟨rfl, rfl⟩
end Go.Proofs.Ytgioaapflilhhab
