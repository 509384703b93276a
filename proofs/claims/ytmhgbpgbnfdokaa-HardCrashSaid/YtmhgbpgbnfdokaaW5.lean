/- The walks of the document's own Reader (kissinggateref01). -/
import Derived.Test.YtmhgbpgbnfdokaaW4
import Derived.Deep.QuietTactic
import Derived.BigQuiet
namespace Go.Proofs.Ytmhgbpgbnfdokaa
open Go.RowKit

theorem cut_front (t : ByteArray) (n : Nat) : t.extract 0 n = ⟨(t.data.toList.take n).toArray⟩ := by
  apply ByteArray.ext
  rw [ByteArray.data_extract]
  apply Array.toList_inj.1
  rw [Array.toList_extract]
  simp [List.extract]
theorem cut_back (t : ByteArray) (n : Nat) : t.extract n t.size = ⟨(t.data.toList.drop n).toArray⟩ := by
  apply ByteArray.ext
  rw [ByteArray.data_extract]
  apply Array.toList_inj.1
  rw [Array.toList_extract]
  simp only [List.extract]
  rw [List.take_of_length_le]
  rw [List.length_drop, text_len]
  exact Nat.le_refl _

/-- the document's reader that lies in block g -/
def Prd (w : World) (g : Nat) (s : RS) : Prop :=
  ∃ t : ByteArray, Blk w g 93 #[.string t, .bool s.bad] ∧ t.data.toList = s.l ∧ (s.bad = true → s.l = []) ∧ s.l.length ≤ 9223372036854775807
theorem Prd.keep {w w' : World} {g : Nat} {s : RS} (h : Prd w g s) (hk : w'.heap[g]? = w.heap[g]?) : Prd w' g s := by
  obtain ⟨t, h1, h2⟩ := h
  exact ⟨t, hk.trans h1, h2⟩

theorem Prd.drewN {w : World} {g : Nat} {s : RS} (h : Prd w g s) (n : Nat) : Prd (w.drewN n) g s := h
theorem Prd.lt {w : World} {g : Nat} {s : RS} (h : Prd w g s) : g < w.heap.size := by
  obtain ⟨t, h1, _⟩ := h
  exact h1.lt
/-- the document's reader is left alone where another block turns -/
theorem Prd.gb {w w' : World} {g g' : Nat} {s : RS} (h : Prd w g' s) (hg : w.grownBy w' (some g)) (hne : g' ≠ g) : Prd w' g' s :=
  h.keep (hg.block g' h.lt (fun e => by injection e with e; omega))
/-- the program's reader is left alone where the document's turns -/
theorem Rdr.gb {w w' : World} {g g' : Nat} {s s' : RS} (h : Rdr w g s) (hp : Prd w g' s') (hg : w.grownBy w' (some g')) (hne : g' ≠ g) : Rdr w' g s := by
  obtain ⟨A, c, h1, h2, h3, h4, h5, h6⟩ := h
  obtain ⟨t, hp1, _⟩ := hp
  have hgl := h1.lt
  have hbk : ∀ b off, A = some ⟨b, off, none⟩ → 0 < s.l.length → b < g → w'.heap[b]? = w.heap[b]? := by
    intro b off hA hn hb
    obtain ⟨cs, fr, hcs⟩ := h6 hn _ hA
    refine hg.block b (by omega) (fun e => ?_)
    injection e with e
    subst e
    unfold Blk at hp1
    simp only at hcs
    rw [hp1] at hcs
    simp at hcs
  refine ⟨A, c, (hg.block g hgl (fun e => by injection e with e; omega)).trans h1, ⟨h2.1, fun hn => ?_⟩, h3, h4, h5, fun hn a ha => ?_⟩
  · obtain ⟨b, off, hA, hb, hc⟩ := h2.2 hn
    exact ⟨b, off, hA, hb, fun j u hu => (World.cell?_of_block (hbk b off hA hn hb)).trans (hc j u hu)⟩
  · obtain ⟨b, off, hA, hb, _⟩ := h2.2 hn
    obtain ⟨cs, fr, hcs⟩ := h6 hn a ha
    rw [hA] at ha
    injection ha with ha
    subst ha
    exact ⟨cs, fr, (hbk b off hA hn hb).trans hcs⟩

def PTook (g n : Nat) (s : RS) (w : World) (e : Ending) (w' : World) : Prop :=
  e = .returned (.string ⟨(s.l.take n).toArray⟩) ∧ Prd w' g (s.behind n) ∧ w.grownBy w' (some g)

set_option maxRecDepth 100000 in
set_option maxHeartbeats 400000 in
/-- part, where so many bytes are left -/
theorem part_yes (g n : Nat) (s : RS) (w : World) (h : Prd w g s) (hb : s.bad = false) (hn : n ≤ s.l.length) :
    Calls Try.prog 68 #[.pointer (some ⟨g, 0, none⟩), .int .i64 (n : Int)] w (PTook g n s w) := by
  obtain ⟨t, hblk, ht, _, hm⟩ := h
  obtain ⟨l, bad⟩ := s
  simp only at hb hn hblk ht hm
  subst hb
  subst ht
  rw [text_len] at hn hm
  have c0 : w.cell? ⟨g, 0, none⟩ = some (.string t) := by rw [hblk.cell]; rfl
  have c1 : w.cell? ⟨g, 1, none⟩ = some (.bool false) := by rw [hblk.cell]; rfl
  have f0 := hblk.frozen 0
  have HB := Lib.hid hblk
  clear hblk
  have hnot : ¬ (t.size : Int) < (n : Int) := by omega
  go_enter Try.func68, Try.ntmps68
  go_wp2_with fail
  go_ret
  have hset := HB.out.set_ 0 (.string (t.extract n t.size))
  refine ⟨by rw [← cut_front]; rfl, ?_, gb_set (gb_refl _ _) _ _⟩
  have e : (RS.mk t.data.toList false).behind n = ⟨t.data.toList.drop n, false⟩ := by simp [RS.behind, hn]
  rw [e]
  refine ⟨t.extract n t.size, hset, by rw [cut_back], by simp, ?_⟩
  simp only [List.length_drop, text_len]
  omega

set_option maxRecDepth 100000 in
set_option maxHeartbeats 400000 in
/-- part, where it failed, or so many bytes aren't left -/
theorem part_no (g n : Nat) (s : RS) (w : World) (h : Prd w g s) (hn : ¬ (s.bad = false ∧ n ≤ s.l.length)) :
    Calls Try.prog 68 #[.pointer (some ⟨g, 0, none⟩), .int .i64 (n : Int)] w fun e w' => e = .returned (.string ⟨#[]⟩) ∧ Prd w' g RS.failed ∧ w.grownBy w' (some g) := by
  obtain ⟨t, hblk, ht, hbl, hm⟩ := h
  obtain ⟨l, bad⟩ := s
  simp only at hn hblk ht hbl hm
  subst ht
  rw [text_len] at hn hm
  have c0 : w.cell? ⟨g, 0, none⟩ = some (.string t) := by rw [hblk.cell]; rfl
  have c1 : w.cell? ⟨g, 1, none⟩ = some (.bool bad) := by rw [hblk.cell]; rfl
  have f0 := hblk.frozen 0
  have f1 := hblk.frozen 1
  have HB := Lib.hid hblk
  clear hblk hbl
  cases bad
  · have hlt : (t.size : Int) < (n : Int) := by simp at hn; omega
    clear hn
    go_enter Try.func68, Try.ntmps68
    go_wp2_with fail
    go_ret
    exact ⟨rfl, ⟨⟨#[]⟩, (HB.out.set_ 1 (.bool true)).set_ 0 (.string ⟨#[]⟩), rfl, fun _ => rfl, by simp [RS.failed]⟩, gb_set (gb_set (gb_refl _ _) _ _) _ _⟩
  · clear hn
    go_enter Try.func68, Try.ntmps68
    go_wp2_with fail
    go_ret
    exact ⟨rfl, ⟨⟨#[]⟩, (HB.out.set_ 1 (.bool true)).set_ 0 (.string ⟨#[]⟩), rfl, fun _ => rfl, by simp [RS.failed]⟩, gb_set (gb_set (gb_refl _ _) _ _) _ _⟩

theorem behind_yes (s : RS) (n : Nat) (h : s.bad = false ∧ n ≤ s.l.length) : s.behind n = ⟨s.l.drop n, false⟩ := if_pos h
/-- the failing stores -/
theorem prd_fail {w : World} {g : Nat} {v0 v1 : Value} (h : Blk w g 93 #[v0, v1]) :
    Prd ((w.setCell ⟨g, 1, none⟩ (.bool true)).setCell ⟨g, 0, none⟩ (.string ⟨#[]⟩)) g RS.failed ∧ w.grownBy ((w.setCell ⟨g, 1, none⟩ (.bool true)).setCell ⟨g, 0, none⟩ (.string ⟨#[]⟩)) (some g) :=
  ⟨⟨⟨#[]⟩, (h.set_ 1 (.bool true)).set_ 0 (.string ⟨#[]⟩), rfl, fun _ => rfl, by simp [RS.failed]⟩, gb_set (gb_set (gb_refl _ _) _ _) _ _⟩
theorem mul_add_cell (a : Nat) (x : UInt8) (h : a * 256 + 255 < 18446744073709551616) :
    IntKind.u64.wrap (IntKind.u64.wrap ((a : Int) * 256) + IntKind.u64.wrap (x.toNat : Int)) = ((a * 256 + x.toNat : Nat) : Int) := by
  have hx : x.toNat < 256 := UInt8.toNat_lt x
  have h1 : IntKind.u64.wrap ((a : Int) * 256) = ((a * 256 : Nat) : Int) := by
    rw [IntWalk.u64_in _ (by omega), Int.natCast_mul]
    rfl
  have h2 : IntKind.u64.wrap (x.toNat : Int) = (x.toNat : Int) := IntWalk.u64_in _ (by omega)
  rw [h1, h2, ← Int.natCast_add]
  exact IntWalk.u64_in _ ⟨by omega, by omega⟩

set_option maxRecDepth 100000 in
set_option maxHeartbeats 800000 in
/-- kissinggateref01.Reader.Int -/
theorem pInt_any (g : Nat) (s : RS) (least most : Int) (w : World) (h : Prd w g s) :
    Calls Try.prog 42 #[.pointer (some ⟨g, 0, none⟩), .int .i64 least, .int .i64 most] w fun e w' => e = .returned (.int .i64 (s.int least most).1) ∧ Prd w' g (s.int least most).2 ∧ w.grownBy w' (some g) := by
  by_cases hn : s.bad = false ∧ 8 ≤ s.l.length
  · have ht := num_take_ret s 8 hn
    have hy := part_yes g 8 s w h hn.1 hn.2
    unfold PTook at hy
    have h8 : (s.l.take 8).length = 8 := by rw [List.length_take]; omega
    unfold RS.int
    rw [ht, behind_yes s 8 hn]
    rw [behind_yes s 8 hn] at hy
    simp only
    generalize hp : s.l.take 8 = q at *
    generalize s.l.drop 8 = l' at *
    have HY := Lib.hid hy
    clear hy ht hp h hn
    have hps : (⟨q.toArray⟩ : ByteArray).size = 8 := by rw [← text_len]; exact h8
    have hpl : (⟨q.toArray⟩ : ByteArray).data.toList = q := rfl
    generalize hpe : (⟨q.toArray⟩ : ByteArray) = p at *
    clear hpe
    subst hpl
    generalize hres : (if wrap64 (num p.data.toList) < least ∨ most < wrap64 (num p.data.toList) then ((0 : Int), RS.failed) else (wrap64 (num p.data.toList), (⟨l', false⟩ : RS))) = res
    have HRES := Lib.hid hres
    clear hres h8
    have HP := Lib.hid hps
    go_enter Try.func42, Try.ntmps42
    go_wp2_with fail
    refine HY.out.mono ?_
    rintro e w1 ⟨rfl, hr1, hg1⟩
    obtain ⟨t, hblk, _⟩ := id hr1
    have c0 : w1.cell? ⟨g, 0, none⟩ = some (.string t) := by rw [hblk.cell]; rfl
    have c1 : w1.cell? ⟨g, 1, none⟩ = some (.bool false) := by rw [hblk.cell]; rfl
    have f0 := hblk.frozen 0
    have f1 := hblk.frozen 1
    have HB := Lib.hid hblk
    clear hblk
    go_wp2_with fail
    go_loop [8, 9] (fun u i => ∃ k : Nat, k ≤ 8 ∧ i = .int .i64 k ∧ u = .int .u64 (num (p.data.toList.take k) : Int)) (fun _ i => 8 - (intOf i).toNat)
    case atStart => exact ⟨0, Nat.zero_le _, rfl, rfl⟩
    case round =>
      obtain ⟨k, hk, rfl, rfl⟩ := hrel
      by_cases hlt : k < 8
      · have hks : k < p.size := by omega
        have hkl : k < p.data.toList.length := by rw [text_len]; exact hks
        have HN := Lib.hid (num_take_succ p.data.toList k hkl)
        have hget : p.data.toList[k] = p[k] := rfl
        have HG := Lib.hid hget
        clear hget
        go_wp2_with fail
        go_round
        case rel => exact ⟨k + 1, by omega, by go_num, by rw [HN.out, HG.out, mul_add_cell _ _ (num_take_bd _ k (by omega))]⟩
        case measure => simp [intOf]; omega
      · have hk' : p.data.toList.take k = p.data.toList := List.take_of_length_le (by rw [text_len]; omega)
        rw [hk']
        clear hk' hps
        generalize num p.data.toList = v at *
        by_cases hlo : wrap64 v < least ∨ most < wrap64 v
        · go_wp2_with fail
          all_goals
            go_ret
            have hr := HRES.out
            rw [if_pos hlo] at hr
            subst hr
            have hf := prd_fail HB.out
            exact ⟨rfl, hf.1, gb_trans hg1 hf.2⟩
        · have h1 : ¬ wrap64 v < least := fun h => hlo (.inl h)
          have h2 : ¬ most < wrap64 v := fun h => hlo (.inr h)
          have HL := Lib.hid hlo
          clear hlo
          go_wp2_with fail
          go_ret
          have hr := HRES.out
          rw [if_neg HL.out] at hr
          subst hr
          exact ⟨rfl, hr1, hg1⟩
  · have ht := num_take_none s 8 hn
    have hy := part_no g 8 s w h hn
    unfold RS.int
    rw [ht]
    simp only
    have HY := Lib.hid hy
    clear hy ht h hn
    go_enter Try.func42, Try.ntmps42
    go_wp2_with fail
    refine HY.out.mono ?_
    rintro e w1 ⟨rfl, hr1, hg1⟩
    obtain ⟨t, hblk, _⟩ := id hr1
    have c1 : w1.cell? ⟨g, 1, none⟩ = some (.bool true) := by rw [hblk.cell]; rfl
    clear hblk
    go_wp2_with fail
    go_ret
    exact ⟨rfl, hr1, hg1⟩

theorem two_bytes (p : List UInt8) (h : p.length = 2) : ∃ x y, p = [x, y] := by
  match p, h with
  | [x, y], _ => exact ⟨x, y, rfl⟩

set_option maxRecDepth 100000 in
set_option maxHeartbeats 800000 in
/-- kissinggateref01.Reader.Text -/
theorem pText_any (g : Nat) (s : RS) (most : Int) (w : World) (h : Prd w g s) :
    Calls Try.prog 43 #[.pointer (some ⟨g, 0, none⟩), .int .i64 most] w fun e w' => e = .returned (.string ⟨(s.text most).1.toArray⟩) ∧ Prd w' g (s.text most).2 ∧ w.grownBy w' (some g) := by
  by_cases hn : s.bad = false ∧ 2 ≤ s.l.length
  · have ht := num_take_ret s 2 hn
    have hy := part_yes g 2 s w h hn.1 hn.2
    unfold PTook at hy
    have h2 : (s.l.take 2).length = 2 := by rw [List.length_take]; omega
    unfold RS.text
    rw [ht, behind_yes s 2 hn]
    rw [behind_yes s 2 hn] at hy
    simp only
    generalize hp : s.l.take 2 = q at *
    generalize s.l.drop 2 = l' at *
    obtain ⟨x, y, rfl⟩ := two_bytes q h2
    have hx := UInt8.toNat_lt x
    have hy' := UInt8.toNat_lt y
    have hnum : num [x, y] = x.toNat * 256 + y.toNat := by simp [num]
    have HY := Lib.hid hy
    clear hy ht hp h hn h2
    have hps : (⟨[x, y].toArray⟩ : ByteArray).size = 2 := rfl
    have hp0 : ∀ hh, (⟨[x, y].toArray⟩ : ByteArray)[0]'hh = x := fun _ => rfl
    have hp1 : ∀ hh, (⟨[x, y].toArray⟩ : ByteArray)[1]'hh = y := fun _ => rfl
    generalize (⟨[x, y].toArray⟩ : ByteArray) = p at *
    have hlt0 : 0 < p.size := by omega
    have hlt1 : 1 < p.size := by omega
    have HX0 := Lib.hid (hp0 hlt0)
    have HX1 := Lib.hid (hp1 hlt1)
    clear hp0 hp1
    have HP := Lib.hid hps
    clear hps
    have hv1 : ((num [x, y] : Nat) : Int) = (x.toNat : Int) * 256 + (y.toNat : Int) := by rw [hnum]; omega
    have HV := Lib.hid hv1
    have hvb : num [x, y] < 65536 := by rw [hnum]; omega
    clear hv1 hnum
    by_cases hlo : most < (num [x, y] : Int)
    · rw [if_pos hlo]
      rw [HV.out] at hlo
      go_enter Try.func43, Try.ntmps43
      go_wp2_with fail
      refine HY.out.mono ?_
      rintro e w1 ⟨rfl, hr1, hg1⟩
      obtain ⟨t, hblk, _⟩ := id hr1
      have c0 : w1.cell? ⟨g, 0, none⟩ = some (.string t) := by rw [hblk.cell]; rfl
      have c1 : w1.cell? ⟨g, 1, none⟩ = some (.bool false) := by rw [hblk.cell]; rfl
      have f0 := hblk.frozen 0
      have f1 := hblk.frozen 1
      have HB := Lib.hid hblk
      clear hblk
      have hx0 := HX0.out
      have hx1 := HX1.out
      go_wp2_with fail
      go_quiet (fail)
      go_wp2_with fail
      go_ret
      have hf := prd_fail (HB.out.drewN nq)
      exact ⟨rfl, hf.1, gb_trans (gb_drewN hg1 nq) hf.2⟩
    · rw [if_neg hlo]
      rw [HV.out] at hlo
      by_cases hm : (RS.mk l' false).bad = false ∧ num [x, y] ≤ (RS.mk l' false).l.length
      · rw [num_take_ret (RS.mk l' false) _ hm]
        simp only
        have hy2 := fun W hr => part_yes g (num [x, y]) (RS.mk l' false) W hr hm.1 hm.2
        unfold PTook at hy2
        generalize (RS.mk l' false).l.take (num [x, y]) = q at *
        generalize (RS.mk l' false).behind (num [x, y]) = s2 at *
        have HY2 := Lib.hid hy2
        clear hy2 hm
        go_enter Try.func43, Try.ntmps43
        go_wp2_with fail
        refine HY.out.mono ?_
        rintro e w1 ⟨rfl, hr1, hg1⟩
        obtain ⟨t, hblk, _⟩ := id hr1
        have c1 : w1.cell? ⟨g, 1, none⟩ = some (.bool false) := by rw [hblk.cell]; rfl
        clear hblk
        have hx0 := HX0.out
        have hx1 := HX1.out
        go_wp2_with fail
        go_quiet (fail)
        go_wp2_with fail
        rw [← HV.out]
        refine (HY2.out _ (hr1.keep (w' := w1.drewN nq) rfl)).mono ?_
        rintro e w3 ⟨rfl, hr3, hg3⟩
        go_wp2_with fail
        go_ret
        exact ⟨rfl, hr3, gb_trans (gb_drewN hg1 nq) hg3⟩
      · rw [num_take_none (RS.mk l' false) _ hm]
        simp only
        have HY2 := Lib.hid (fun W hr => part_no g (num [x, y]) (RS.mk l' false) W hr hm)
        clear hm
        go_enter Try.func43, Try.ntmps43
        go_wp2_with fail
        refine HY.out.mono ?_
        rintro e w1 ⟨rfl, hr1, hg1⟩
        obtain ⟨t, hblk, _⟩ := id hr1
        have c1 : w1.cell? ⟨g, 1, none⟩ = some (.bool false) := by rw [hblk.cell]; rfl
        clear hblk
        have hx0 := HX0.out
        have hx1 := HX1.out
        go_wp2_with fail
        go_quiet (fail)
        go_wp2_with fail
        rw [← HV.out]
        refine (HY2.out _ (hr1.keep (w' := w1.drewN nq) rfl)).mono ?_
        rintro e w3 ⟨rfl, hr3, hg3⟩
        go_wp2_with fail
        go_ret
        exact ⟨rfl, hr3, gb_trans (gb_drewN hg1 nq) hg3⟩
  · have ht := num_take_none s 2 hn
    have hy := part_no g 2 s w h hn
    unfold RS.text
    rw [ht]
    simp only
    have HY := Lib.hid hy
    clear hy ht h hn
    go_enter Try.func43, Try.ntmps43
    go_wp2_with fail
    refine HY.out.mono ?_
    rintro e w1 ⟨rfl, hr1, hg1⟩
    obtain ⟨t, hblk, _⟩ := id hr1
    have c1 : w1.cell? ⟨g, 1, none⟩ = some (.bool true) := by rw [hblk.cell]; rfl
    clear hblk
    go_wp2_with fail
    go_ret
    exact ⟨rfl, hr1, hg1⟩

end Go.Proofs.Ytmhgbpgbnfdokaa
