/- Package route: the calls whose answers the document fixes. -/
import Derived.Test.YtgioaapflilhhabRt5
namespace Go.Proofs.Ytgioaapflilhhab
open Go.RowKit

theorem fb_right : rightF [⟨#[103]⟩, ⟨#[112]⟩] = 0 :=
  rightF_ok (by decide) (by kernel_rfl) (fun k hk => by
    obtain rfl : k = 0 := by simp at hk; omega
    kernel_rfl)
theorem fb_wrong : rightF [⟨#[112]⟩, ⟨#[103]⟩] = 5 := rightF_range (by decide) (by kernel_rfl) 0 (by decide) (by kernel_rfl)
theorem fb_sees (w : World) (a b : ByteArray) : Sees (w.alloc (.cells #[.string a, .string b] 9)) (w.alloc (.cells #[.string a, .string b] 9)).heap.size (some ⟨w.heap.size, 0, none⟩) 2 (txs [a, b]) := sees_new w #[.string a, .string b] 9

set_option maxRecDepth 100000 in
set_option maxHeartbeats 3200000 in
theorem fixedB_any (w : World) : Calls Try.prog 7 #[] w fun e w' => e = .returned (.bool true) ∧ Below w.heap.size w w' := by
  have heq := fun g W => eql_map ⟨g, 0, none⟩ W
  go_enter Try.func7, Try.ntmps7
  go_wp2_with fail
  refine (new_any _ 2 2 _ _ (fb_sees w _ _) (by decide)).mono ?_
  rintro e w1 ⟨h1, _, hb1⟩
  obtain ⟨g, rfl, hm1, _⟩ := h1 fb_right
  have HB1 := Lib.hid (((Below.refl w.heap.size w).alloc (Nat.le_refl _) _).trans (hb1.mono (by simp)))
  have HM1 := Lib.hid hm1
  clear h1 hb1 hm1
  go_wp2_with fail
  refine (range_any g _ 1 w1 HM1.out (by decide) (by decide)).mono ?_
  rintro e w' ⟨rfl, rfl⟩
  rw [show lowF [⟨#[103]⟩, ⟨#[112]⟩] 1 = ⟨#[103]⟩ from rfl, show highF [⟨#[103]⟩, ⟨#[112]⟩] 1 = ⟨#[112]⟩ from rfl]
  go_wp2_with fail
  refine (range_none g _ 3 w' HM1.out (.inr (by decide))).mono ?_
  rintro e w1 ⟨rfl, rfl⟩
  go_wp2_with fail
  refine (new_any _ 2 2 _ _ (fb_sees w1 _ _) (by decide)).mono ?_
  rintro e w2 ⟨_, h2, hb2⟩
  rw [h2 (by rw [fb_wrong]; decide), fb_wrong]
  have hb2' := ((Below.refl w1.heap.size w1).alloc (Nat.le_refl _) (.cells #[.string ⟨#[112]⟩, .string ⟨#[103]⟩] 9)).trans (hb2.mono (by simp))
  have HB2 := Lib.hid (HB1.out.trans (hb2'.mono HB1.out.size))
  have HM2 := Lib.hid (HM1.out.on hb2')
  clear h2 hb2 hb2' HB1 HM1
  go_wp2_with fail
  refine (newTable_any _ w2).mono ?_
  rintro e w3 ⟨t, rfl, ht3, hb3, hle⟩
  have HB3 := Lib.hid (HB2.out.trans (hb3.mono HB2.out.size))
  have HM3 := Lib.hid (HM2.out.on hb3)
  have HT3 := Lib.hid ht3
  have HLE := Lib.hid (Nat.le_trans HB2.out.size hle)
  clear ht3 hb3 hle HB2 HM2
  go_wp2_with fail
  refine (now_below t _ _ w3 HT3.out).mono ?_
  rintro e w4 ⟨rfl, hb4⟩
  have HB4 := Lib.hid (HB3.out.trans (hb4.mono HB3.out.size))
  have HM4 := Lib.hid (HM3.out.on hb4)
  have HT4 := Lib.hid (HT3.out.on hb4)
  clear hb4 HB3 HM3 HT3
  go_wp2_with fail
  refine (change_miss t _ ⟨g, 0, none⟩ 1 2 w4 HT4.out (by decide) (by decide)).mono ?_
  rintro e w5 ⟨rfl, hb5⟩
  have HB5 := Lib.hid (HB4.out.trans (hb5.mono HB4.out.size))
  have HM5 := Lib.hid (HM4.out.on hb5)
  have HT5 := Lib.hid (HT4.out.on hb5)
  clear hb5 HB4 HM4 HT4
  go_wp2_with fail
  refine (change_hit t _ ⟨g, 0, none⟩ 1 w5 HT5.out (by decide)).mono ?_
  rintro e w6 ⟨rfl, ht6, hg6⟩
  have HB6 := Lib.hid (HB5.out.grown hg6 HB5.out.size (fun k hk => by injection hk with hk; subst hk; exact HLE.out))
  have HM6 := Lib.hid (HM5.out.turned hg6 HT5.out)
  have HT6 := Lib.hid ht6
  clear ht6 hg6 HB5 HM5 HT5
  go_wp2_with fail
  refine (now_below t _ _ w6 HT6.out).mono ?_
  rintro e w7 ⟨rfl, hb7⟩
  have HM7 := Lib.hid (HM6.out.on hb7)
  have HB7 := Lib.hid (HB6.out.trans (hb7.mono HB6.out.size))
  clear hb7 HM6 HB6 HT6
  go_wp2_with fail
  refine (split_nil _ _).mono ?_
  rintro e w' ⟨rfl, rfl⟩
  go_wp2_with fail
  refine (shards_any g _ _ HM7.out (by decide)).mono ?_
  rintro e w7 ⟨rfl, rfl⟩
  go_wp2_with fail
  refine (of_below g _ ⟨#[97]⟩ _ HM7.out fb_right).mono ?_
  rintro e w8 ⟨rfl, hb8⟩
  rw [show ofF [⟨#[103]⟩, ⟨#[112]⟩] ⟨#[97]⟩ = 0 from by kernel_rfl]
  have HM8 := Lib.hid (HM7.out.on hb8)
  have HB8 := Lib.hid (HB7.out.trans (hb8.mono HB7.out.size))
  clear hb8 HM7 HB7
  go_wp2_with fail
  refine (of_below g _ ⟨#[103]⟩ _ HM8.out fb_right).mono ?_
  rintro e w9 ⟨rfl, hb9⟩
  rw [show ofF [⟨#[103]⟩, ⟨#[112]⟩] ⟨#[103]⟩ = 1 from by kernel_rfl]
  have HM9 := Lib.hid (HM8.out.on hb9)
  have HB9 := Lib.hid (HB8.out.trans (hb9.mono HB8.out.size))
  clear hb9 HM8 HB8
  go_wp2_with fail
  refine (of_below g _ ⟨#[122]⟩ _ HM9.out fb_right).mono ?_
  rintro e w10 ⟨rfl, hb10⟩
  rw [show ofF [⟨#[103]⟩, ⟨#[112]⟩] ⟨#[122]⟩ = 2 from by kernel_rfl]
  have HB10 := Lib.hid (HB9.out.trans (hb10.mono HB9.out.size))
  clear hb10 HM9 HB9
  go_wp2_with fail
  refine (shards_nil _).mono ?_
  rintro e w' ⟨rfl, rfl⟩
  go_wp2_with fail
  refine (change_nil _ _ _).mono ?_
  rintro e w' ⟨rfl, rfl⟩
  go_wp2_with fail
  go_ret
  exact ⟨rfl, HB10.out⟩
end Go.Proofs.Ytgioaapflilhhab
