/- Package route: New, Of, Split, Join. -/
import Derived.Test.YtgioaapflilhhabRt3
import Derived.Test.YtgioaapflilhhabRtL
namespace Go.Proofs.Ytgioaapflilhhab
open Go.RowKit

/-- what New answers -/
def NewRet (w : World) (l : List ByteArray) (e : Ending) (w' : World) : Prop :=
  (rightF l = 0 → ∃ g, e = .returned (.tuple #[.pointer (some ⟨g, 0, none⟩), .int .i64 0]) ∧ MapAt w' g l ∧ w.heap.size ≤ g) ∧ (rightF l ≠ 0 → e = .returned (.tuple #[.pointer none, .int .i64 (rightF l)])) ∧ Below w.heap.size w w'
theorem NewRet.bad {w w' : World} {l : List ByteArray} {k : Int} (h : rightF l = k) (hk : k ≠ 0) (hb : Below w.heap.size w w') : NewRet w l (.returned (.tuple #[.pointer none, .int .i64 k])) w' :=
  ⟨fun e => absurd (h.symm.trans e) hk, fun _ => by rw [h], hb⟩

set_option maxRecDepth 100000 in
set_option maxHeartbeats 1600000 in
theorem new_any (A : Option Addr) (n c : Nat) (l : List ByteArray) (w : World) (hs : Sees w w.heap.size A n (txs l)) (hn : n ≤ maxLen) :
    Calls Try.prog 9 #[.slice A n c] w (NewRet w l) := by
  obtain rfl : l.length = n := by have := hs.1; rwa [txs_length] at this
  unfold maxLen at hn
  by_cases h7 : 7 < l.length
  · have h7' : (7 : Int) < (l.length : Int) := by omega
    go_enter Try.func9, Try.ntmps9
    go_wp2_with fail
    go_ret2
    exact NewRet.bad (rightF_full h7) (by decide) (Below.refl _ _)
  · have h7' : ¬ (7 : Int) < (l.length : Int) := by omega
    have HS := Lib.hid hs
    have H7 := Lib.hid h7
    clear hs h7
    go_enter Try.func9, Try.ntmps9
    go_wp2_with fail
    go_loop [12] (fun i => ∃ k : Nat, k ≤ l.length ∧ i = .int .i64 (k : Int) ∧ ∀ (j : Nat) (hj : j < l.length), j < k → badS l[j] = false) (fun i => l.length - (intOf i).toNat)
    case atStart => exact ⟨0, Nat.zero_le _, rfl, fun _ _ h => absurd h (by omega)⟩
    case round =>
      obtain ⟨k, hk, rfl, hall⟩ := hrel
      have HALL := Lib.hid hall
      clear hall
      by_cases hlt : k < l.length
      · obtain ⟨b, off, rfl, hb, hcell⟩ := HS.out.txt hlt
        obtain ⟨x, hx⟩ : ∃ x, l[k] = x := ⟨_, rfl⟩
        rw [hx] at hcell
        have HX := Lib.hid hx
        clear hx hb
        have hlt' : (k : Int) < (l.length : Int) := by omega
        cases hbad : badS x with
        | true =>
          have HM := Lib.hid (mayBe_no x w hbad)
          have HBAD := Lib.hid hbad
          clear hbad
          go_wp2_with fail
          refine HM.out.mono ?_
          rintro e w' ⟨rfl, rfl⟩
          go_wp2_with fail
          go_ret2
          exact NewRet.bad (rightF_arg H7.out k hlt (by rw [HX.out]; exact HBAD.out)) (by decide) (Below.refl _ _)
        | false =>
          have HM := Lib.hid (mayBe_yes x w hbad)
          have HBAD := Lib.hid hbad
          clear hbad
          go_wp2_with fail
          refine HM.out.mono ?_
          rintro e w' ⟨rfl, rfl⟩
          go_wp2_with fail
          go_round
          case rel => exact ⟨k + 1, by omega, by go_num, fun j hj hjk => by
            by_cases e : j = k
            · subst e; rw [HX.out]; exact HBAD.out
            · exact HALL.out j hj (by omega)⟩
          case measure => simp [intOf]; omega
      · have hge : ¬ (k : Int) < (l.length : Int) := by omega
        have HA := Lib.hid (good_all (l := l) fun j hj => HALL.out j hj (by omega))
        clear HALL
        go_wp2_with fail
        go_loopw [6] (fun i wr => ∃ k : Nat, 1 ≤ k ∧ i = .int .i64 (k : Int) ∧ (∃ q, wr = w.drewN q) ∧ k ≤ l.length + 1 ∧ ∀ (j : Nat) (hj : j + 1 < l.length), j + 1 < k → ltS l[j] l[j + 1] = true) (fun i _ => l.length - (intOf i).toNat)
        case atStart => exact ⟨1, Nat.le_refl _, rfl, ⟨0, rfl⟩, by omega, fun _ _ h => absurd h (by omega)⟩
        case round =>
          obtain ⟨p, hp1, rfl, ⟨q, rfl⟩, hp2, hall⟩ := hrel
          have HALL := Lib.hid hall
          clear hall
          by_cases hltp : p < l.length
          · obtain ⟨p, rfl⟩ : ∃ p', p = p' + 1 := ⟨p - 1, by omega⟩
            obtain ⟨b, off, rfl, hb, hcell⟩ := HS.out.txt hltp
            obtain ⟨b', off', hA', hb', hcell2⟩ := HS.out.txt (show p < l.length by omega)
            injection hA' with hA'
            injection hA' with hA1 hA2
            subst hA1
            subst hA2
            obtain ⟨y, hy⟩ : ∃ y, l[p + 1] = y := ⟨_, rfl⟩
            obtain ⟨x, hx⟩ : ∃ x, l[p]'(by omega) = x := ⟨_, rfl⟩
            rw [hx] at hcell2
            rw [hy] at hcell
            have HX := Lib.hid hx
            have HY := Lib.hid hy
            have hlt1 : (p : Int) + 1 < (l.length : Int) := by omega
            have hlt0 : (p : Int) < (l.length : Int) := by omega
            have hq1 : IntKind.i64.wrap ((p : Int) + 1 - 1) = (p : Int) := by rw [IntKind.wrap_i64]; omega
            have hc1 : ((p + 1 : Nat) : Int) = (p : Int) + 1 := by omega
            have HP := Lib.hid hltp
            clear hx hy hb hb' hp1 hp2 hge
            cases hxy : ltS x y with
            | false =>
              have hr := gt_raw hxy
              have HXY := Lib.hid hxy
              clear hxy
              go_wp2_with fail
              go_quiet (fail)
              go_wp2_with fail
              go_ret2
              exact NewRet.bad (rightF_range H7.out HA.out p HP.out (by rw [HX.out, HY.out]; exact HXY.out)) (by decide) (below_drewN (below_drewN (Below.refl _ _) _) _)
            | true =>
              have hr := le_raw hxy
              have HXY := Lib.hid hxy
              clear hxy
              go_wp2_with fail
              go_quiet (fail)
              go_wp2_with fail
              go_roundw
              case rel => exact ⟨p + 2, by omega, by go_num, ⟨_, by first | rfl | (simp [World.drewN]; rfl)⟩, by have := HP.out; omega, fun j hj hjk => by
                by_cases e : j = p
                · subst e; rw [HX.out, HY.out]; exact HXY.out
                · exact HALL.out j hj (by omega)⟩
              case measure => have := HP.out; simp [intOf]; omega
          · have hgep : ¬ (p : Int) < (l.length : Int) := by omega
            have HC := Lib.hid (sclone_any A l.length c l (w.drewN q) (HS.out.drewN q) (by have := H7.out; omega))
            have HR := Lib.hid (rightF_ok H7.out HA.out (fun j hj => HALL.out j hj (by omega)))
            go_wp2_with fail
            refine HC.out.mono ?_
            rintro e w1 ⟨A1, c1, rfl, hf1, hb1⟩
            go_wp2_with fail
            go_ret2
            have hb1' : Below w.heap.size w w1 := (below_drewN (Below.refl w.heap.size w) q).trans hb1
            have hb2 := hb1'.alloc hb1'.size (.cells #[.slice A1 l.length c1] 57)
            have hs1 := hf1.sees
            rw [Nat.mul_one] at hs1
            refine ⟨fun _ => ⟨w1.heap.size, rfl, ⟨A1, c1, Blk.new w1 _ _, hs1.past _, (hf1.on ((Below.refl _ _).alloc (Nat.le_refl _) _)).mono (Nat.zero_le _)⟩, hb1'.size⟩, fun h => absurd HR.out h, hb2⟩

set_option maxHeartbeats 800000 in
theorem of_any (g : Nat) (l : List ByteArray) (key : ByteArray) (w : World) (h : MapAt w g l) (hr : rightF l = 0) :
    Calls Try.prog 14 #[.pointer (some ⟨g, 0, none⟩), .string key] w fun e w' => e = .returned (.int .i64 (ofF l key : Nat)) ∧ ∃ q, w' = w.drewN q := by
  obtain ⟨hlen, _, hri⟩ := rightF_zero hr
  obtain ⟨A, c, h1, h2, _⟩ := h
  have c0 : w.cell? ⟨g, 0, none⟩ = some (.slice A l.length c) := by rw [h1.cell]; rfl
  have HQ := search_any A l.length c l key w _ h2 hri (by omega)
  have HO := Lib.hid (ofF_low hri key)
  have hle : lowN l key ≤ 7 := Nat.le_trans (lowN_le l key) hlen
  generalize lowN l key = I at *
  have hi0 : (0 : Int) ≤ (I : Int) := by omega
  have hi1 : (I : Int) ≤ 7 := by omega
  clear h1 h2 hr hri hlen hle
  by_cases hm : hasS l key = true
  · rw [hm] at HQ
    rw [if_pos hm] at HO
    have HQ := Lib.hid HQ
    clear hm
    go_enter Try.func14, Try.ntmps14
    go_wp2_with fail
    refine HQ.out.mono ?_
    rintro e w' ⟨rfl, q, rfl⟩
    go_wp2_with fail
    go_ret
    exact ⟨ret_i64 (by rw [HO.out]; omega), q, rfl⟩
  · rw [if_neg hm] at HO
    rw [show hasS l key = false by simpa using hm] at HQ
    have HQ := Lib.hid HQ
    clear hm
    go_enter Try.func14, Try.ntmps14
    go_wp2_with fail
    refine HQ.out.mono ?_
    rintro e w' ⟨rfl, q, rfl⟩
    go_wp2_with fail
    go_ret
    exact ⟨ret_i64 (by rw [HO.out]; omega), q, rfl⟩
theorem of_below (g : Nat) (l : List ByteArray) (key : ByteArray) (w : World) (h : MapAt w g l) (hr : rightF l = 0) :
    Calls Try.prog 14 #[.pointer (some ⟨g, 0, none⟩), .string key] w fun e w' => e = .returned (.int .i64 (ofF l key : Nat)) ∧ Below w.heap.size w w' :=
  (of_any g l key w h hr).mono fun e w' ⟨he, q, hw⟩ => ⟨he, by rw [hw]; exact below_drewN (Below.refl _ _) q⟩
theorem now_below (t : Nat) (m : Option Addr) (k : Int) (w : World) (h : TabAt w t m k) :
    Calls Try.prog 23 #[.pointer (some ⟨t, 0, none⟩)] w fun e w' => e = .returned (.tuple #[.pointer m, .int .i64 k]) ∧ Below w.heap.size w w' :=
  (now_any t m k w h).mono fun e w' ⟨he, q, hw⟩ => ⟨he, by rw [hw]; exact below_drewN (Below.refl _ _) q⟩
end Go.Proofs.Ytgioaapflilhhab
