/- The fixed facts at the head of layer 6's statements: they hold, whatever the world. -/
import Derived.Test.YtmhgbpgbnfdokaaHdA
import Derived.Test.YtmhgbpgbnfdokaaHdP
namespace Go.Proofs.Ytmhgbpgbnfdokaa
open Go.RowKit

set_option maxRecDepth 100000 in
set_option maxHeartbeats 800000 in
theorem hrecover_nil (w : World) :
    Calls Try.prog 25 #[.pointer none] w fun e w' => e = .returned (.tuple #[.agg #[.int .i64 0, .int .i64 0, .slice none 0 0], .int .i64 1]) ∧ Below w.heap.size w w' := by
  have hA3 := Blk.new w 25 #[.int .i64 0, .int .i64 0, .slice none 0 0]
  have hb0 := (Below.refl w.heap.size w).alloc (Nat.le_refl _) (.cells #[.int .i64 0, .int .i64 0, .slice none 0 0] 25)
  have HBF := Lib.hid ((((hb0.setCell (p := ⟨w.heap.size, 0, none⟩) (Nat.le_refl _) (.int .i64 0)).setCell (p := ⟨w.heap.size, 1, none⟩) (Nat.le_refl _) (.int .i64 0)).setCell (p := ⟨w.heap.size, 2, none⟩) (Nat.le_refl _) (.slice none 0 0)))
  have HA := Lib.hid hA3
  clear hA3 hb0
  go_enter Try.func25, Try.ntmps25
  go_wp2_with fail
  generalize w.alloc (.cells #[.int .i64 0, .int .i64 0, .slice none 0 0] 25) = w0 at *
  refine (wrecover_nil w0).mono ?_
  rintro e w3 ⟨rfl, rfl⟩
  have hA3 := HA.out
  have d0 : w3.cell? ⟨w.heap.size, 0, none⟩ = some (.int .i64 0) := by rw [hA3.cell]; rfl
  have d1 : w3.cell? ⟨w.heap.size, 1, none⟩ = some (.int .i64 0) := by rw [hA3.cell]; rfl
  have d2 : w3.cell? ⟨w.heap.size, 2, none⟩ = some (.slice none 0 0) := by rw [hA3.cell]; rfl
  have f0 := hA3.frozen 0
  have f1 := hA3.frozen 1
  have f2 := hA3.frozen 2
  have HA4 := Lib.hid (((hA3.set_ 0 (.int .i64 0)).set_ 1 (.int .i64 0)).set_ 2 (.slice none 0 0))
  clear hA3
  go_wp2_with fail
  (try simp only [Exit.inBlock, Exit.then])
  refine bodyPost_ret (results_row2 rfl _ _ w.heap.size 25 #[.int .i64 0, .int .i64 0, .slice none 0 0] _ rfl HA4.out Try.underlying25 rfl st_size) rfl ?_
  exact ⟨rfl, HBF.out⟩

set_option maxHeartbeats 1600000 in
set_option maxRecDepth 100000 in
theorem fixed6_any (w : World) :
    Calls Try.prog 10 #[] w fun e w' => e = .returned (.bool true) ∧ Below w.heap.size w w' := by
  go_enter Try.func10, Try.ntmps10
  go_wp2_with fail
  refine (dNew_any w).mono ?_
  rintro e w1 ⟨rfl, hd1, hb1⟩
  generalize hg : w.heap.size = g at *
  go_wp2_with fail
  have hs2 := sees_new w1 #[.int .i64 2, .string ⟨#[120]⟩, .int .i64 3, .string ⟨#[121]⟩] 73
  have hd2 := hd1.alloc (.cells #[.int .i64 2, .string ⟨#[120]⟩, .int .i64 3, .string ⟨#[121]⟩] 73)
  have hb2 := hb1.alloc (by have := hb1.size; omega) (.cells #[.int .i64 2, .string ⟨#[120]⟩, .int .i64 3, .string ⟨#[121]⟩] 73)
  refine (hwrite_any g g 0 [] fx1 _ 2 2 _ hd2 (by have := hb2.size; omega) (by simp) hs2 rfl (by omega) (by intro x hx; simp at hx; rcases hx with rfl | rfl <;> decide)).mono ?_
  rintro e w3 ⟨rfl, hd3, hb3⟩
  rw [fx_w1] at hd3 ⊢
  have hb4 := hb2.trans hb3
  simp only at hd3
  clear hd1 hb1 hd2 hb2 hs2 hb3
  go_wp2_with fail
  refine (dSync_any g g 0 (recsB (recordsF fx1)) w3 hd3).mono ?_
  rintro e w4 ⟨rfl, hd4, hb5⟩
  have hb6 := hb4.trans hb5
  clear hd3 hb4 hb5
  go_wp2_with fail
  have hs5 := sees_new w4 #[.int .i64 3, .string ⟨#[122]⟩] 73
  have hd5 := hd4.alloc (.cells #[.int .i64 3, .string ⟨#[122]⟩] 73)
  have hb7 := hb6.alloc (by have := hb6.size; omega) (.cells #[.int .i64 3, .string ⟨#[122]⟩] 73)
  refine (hwrite_any g g _ (recsB (recordsF fx1)) fx2 _ 1 1 _ hd5 (by have := hb7.size; omega) (by rw [fx_len1]; decide) hs5 rfl (by omega) (by intro x hx; simp at hx; subst hx; decide)).mono ?_
  rintro e w6 ⟨rfl, hd6, hb8⟩
  rw [fx_w2] at hd6 ⊢
  have hb9 := hb7.trans hb8
  simp only at hd6
  rw [fx_len1] at hd6
  clear hd4 hb6 hs5 hd5 hb7 hb8
  go_wp2_with fail
  have HR := hrecover_any g g 81 _ w6 hd6 (by have := hb9.size; omega) (by rw [fx_len]; decide) (by rw [fx_rd]; decide)
  simp only [fx_rd, fx_play] at HR
  refine HR.mono ?_
  rintro e w7 ⟨⟨A7, n7, c7, rfl, hn7, hf7⟩, _, hb10⟩
  have hb11 := hb9.trans hb10
  clear HR hd6 hb9 hb10
  go_wp2_with fail
  have hst := Blk.new w7 25 #[.int .i64 3, .int .i64 1, .slice A7 n7 c7]
  have hf8 := hf7.on ((Below.refl w7.heap.size w7).alloc (Nat.le_refl _) (.cells #[.int .i64 3, .int .i64 1, .slice A7 n7 c7] 25))
  have hb12 := hb11.alloc (by have := hb11.size; omega) (.cells #[.int .i64 3, .int .i64 1, .slice A7 n7 c7] 25)
  have hsz : (w7.alloc (.cells #[.int .i64 3, .int .i64 1, .slice A7 n7 c7] 25)).heap.size = w7.heap.size + 1 := by simp
  clear hf7 hb11
  generalize w7.alloc (.cells #[.int .i64 3, .int .i64 1, .slice A7 n7 c7] 25) = w8 at *
  have HST := Lib.hid (fun (W : World) (hW : Below w8.heap.size w8 W) => (⟨hst.below hW hst.lt, hf8.on hW⟩ : Blk W w7.heap.size 25 #[.int .i64 3, .int .i64 1, .slice A7 n7 c7] ∧ FreeN 2 W w6.heap.size 73 A7 n7 c7 (ecs [⟨2, ⟨#[120]⟩⟩, ⟨3, ⟨#[122]⟩⟩])))
  have hs9 : Sees (w8.alloc (.cells #[.int .u8 3, .slice none 0 0] 29)) (w8.alloc (.cells #[.int .u8 3, .slice none 0 0] 29)).heap.size (some ⟨w7.heap.size + 1, 0, none⟩) (1 * 2) (rcs [⟨3, none, 0, 0, []⟩]) := by
    have h := sees_new w8 #[.int .u8 3, .slice none 0 0] 29
    rw [hsz] at h
    exact h
  have hb9' := (Below.refl w8.heap.size w8).alloc (Nat.le_refl _) (.cells #[.int .u8 3, .slice none 0 0] 29)
  have HP := Play_any (some ⟨w7.heap.size + 1, 0, none⟩) 1 1 [⟨3, none, 0, 0, []⟩] _ ⟨hs9, fun r hr => by rw [List.mem_singleton.1 hr]; exact ⟨rfl, fun h => absurd h (by decide)⟩⟩ rfl (by omega) (by intro r hr; rw [List.mem_singleton.1 hr]; decide)
  rw [show playF ([⟨3, none, 0, 0, []⟩].map RecP.m) = none from fx_bad] at HP
  clear hst hf8 hs9
  refine HP.mono ?_
  rintro e w9 ⟨hb13, rfl⟩
  have hbx := bthen hb9' hb13
  clear HP hb9' hb13
  go_wp2_with fail
  have hby := bthen hbx ((Below.refl w9.heap.size w9).alloc (Nat.le_refl _) (.cells #[.int .i64 0, .int .i64 0, .slice none 0 0] 25))
  clear hbx
  generalize w9.alloc (.cells #[.int .i64 0, .int .i64 0, .slice none 0 0] 25) = w10 at *
  have HP2 := Play_any none 0 0 [] w10 ⟨⟨rfl, fun h => absurd h (by decide)⟩, fun r hr => by cases hr⟩ rfl (by omega) (by intro r hr; cases hr)
  rw [show playF ([].map RecP.m) = some ⟨0, -1, []⟩ from fx_nil] at HP2
  refine HP2.mono ?_
  rintro e w11 ⟨hb14, A11, n11, c11, rfl, hn11, _⟩
  have hbz := bthen hby hb14
  clear HP2 hby hb14
  go_wp2_with fail
  have hst2 := Blk.new w11 25 #[.int .i64 0, .int .i64 (-1), .slice A11 n11 c11]
  have hbz2 := bthen hbz ((Below.refl w11.heap.size w11).alloc (Nat.le_refl _) (.cells #[.int .i64 0, .int .i64 (-1), .slice A11 n11 c11] 25))
  clear hbz
  generalize w11.alloc (.cells #[.int .i64 0, .int .i64 (-1), .slice A11 n11 c11] 25) = w12 at *
  refine (hrecover_nil w12).mono ?_
  rintro e w13 ⟨rfl, hb15⟩
  have hb16 := bthen hb15 ((Below.refl w13.heap.size w13).alloc (Nat.le_refl _) (.cells #[.int .i64 0, .int .i64 0, .slice none 0 0] 25))
  have hst3 := hst2.below hb16 hst2.lt
  have hbe := bthen hbz2 hb16
  obtain ⟨hst4, hf4⟩ := HST.out _ hbe
  have hn2 : n7 = 2 := hn7.symm
  subst hn2
  obtain ⟨b, off, rfl, hbl, d0, d1⟩ := Ents.at_ (es := [⟨2, ⟨#[120]⟩⟩, ⟨3, ⟨#[122]⟩⟩]) hf4.sees (j := 1) (by decide)
  have q0 : (w13.alloc (.cells #[.int .i64 0, .int .i64 0, .slice none 0 0] 25)).cell? ⟨w7.heap.size, 0, none⟩ = some (.int .i64 3) := by rw [hst4.cell]; rfl
  have q1 : (w13.alloc (.cells #[.int .i64 0, .int .i64 0, .slice none 0 0] 25)).cell? ⟨w7.heap.size, 1, none⟩ = some (.int .i64 1) := by rw [hst4.cell]; rfl
  have q2 : (w13.alloc (.cells #[.int .i64 0, .int .i64 0, .slice none 0 0] 25)).cell? ⟨w7.heap.size, 2, none⟩ = some (.slice (some ⟨b, off, none⟩) 2 c7) := by rw [hst4.cell]; rfl
  have q3 : (w13.alloc (.cells #[.int .i64 0, .int .i64 0, .slice none 0 0] 25)).cell? ⟨w11.heap.size, 1, none⟩ = some (.int .i64 (-1)) := by rw [hst3.cell]; rfl
  have d1' : (w13.alloc (.cells #[.int .i64 0, .int .i64 0, .slice none 0 0] 25)).cell? ⟨b, off + 2 + 1, none⟩ = some (.string ⟨#[122]⟩) := d1
  have HRI := right_any ⟨3, 1, [⟨2, ⟨#[120]⟩⟩, ⟨3, ⟨#[122]⟩⟩]⟩ (some ⟨b, off, none⟩) 2 c7 _ hf4.sees rfl (by omega)
  rw [fx_rights] at HRI
  have HRI' := Lib.hid HRI
  have HB12 := Lib.hid hb12
  have HBE := Lib.hid hbe
  have HSZ := Lib.hid hsz
  clear HRI hst2 hst3 hst4 hf4 hb12 hbe hb15 hb16 hbz2 hsz d0
  go_wp2_with fail
  refine HRI'.out.mono ?_
  rintro e w14 ⟨rfl, hb17⟩
  clear q0 q1 q2 q3 d1 d1' HRI'
  go_wp2_with fail
  refine (records_any ⟨true, 0, 0, 0, []⟩ none 0 0 w14 (Ents.nil _ _ _) rfl (by omega) (by intro x hx; cases hx)).mono ?_
  rintro e w15 ⟨A15, n15, c15, rs15, rfl, hms, hrn, hb18⟩
  have hn15 : n15 = 1 := by rw [← hrn.2.1, ← List.length_map (f := RecP.m), hms]; rfl
  subst hn15
  have HBF := Lib.hid (HB12.out.trans ((bthen HBE.out (bthen hb17 hb18)).mono (by rw [← hg]; exact HB12.out.size)))
  rw [← hg] at HBF
  clear hms hrn hb17 hb18
  go_wp2_with fail
  go_ret
  exact ⟨rfl, HBF.out⟩
end Go.Proofs.Ytmhgbpgbnfdokaa
