/- The fixed facts at the head of layer 7's statements: they hold, whatever the world. -/
import Derived.Test.YtcmeindekbjefaaLog3
namespace Go.Proofs.Ytcmeindekbjefaa
open Go.RowKit

def no : ByteArray := ⟨#[]⟩
theorem fix7_put : putF [⟨1, no⟩, ⟨1, no⟩] 1 1 [⟨2, ⟨#[120]⟩⟩] = ([⟨1, no⟩, ⟨2, ⟨#[120]⟩⟩], 2, 0) := rfl
theorem fix7_put2 : putF [⟨1, no⟩, ⟨2, ⟨#[120]⟩⟩] 9 1 [] = ([⟨1, no⟩, ⟨2, ⟨#[120]⟩⟩], 0, 6) := rfl
theorem fix7_put3 : putF [⟨1, no⟩, ⟨2, ⟨#[120]⟩⟩] 2 1 [] = ([⟨1, no⟩, ⟨2, ⟨#[120]⟩⟩], 0, 8) := rfl
theorem fix7_add : addF [⟨1, no⟩, ⟨2, ⟨#[120]⟩⟩] ⟨1, no⟩ = ([⟨1, no⟩, ⟨2, ⟨#[120]⟩⟩], 5) := rfl
theorem fix7_last : lastT [⟨1, no⟩, ⟨2, ⟨#[120]⟩⟩] = 2 := rfl
theorem fix7_young : youngF [⟨1, no⟩, ⟨2, ⟨#[120]⟩⟩] 2 2 = true := rfl
theorem fix7_young2 : youngF [⟨1, no⟩, ⟨2, ⟨#[120]⟩⟩] 9 1 = false := rfl
theorem fix7_from : (fromF [⟨1, no⟩, ⟨2, ⟨#[120]⟩⟩] 2 5).length = 1 := rfl

set_option maxHeartbeats 1600000 in
set_option maxRecDepth 100000 in
theorem fixed7_any (w : World) :
    Calls Try.prog 25 #[] w fun e w' => e = .returned (.bool true) ∧ Below w.heap.size w w' := by
  go_enter Try.func25, Try.ntmps25
  go_wp2_with fail
  have hs1 := sees_new w #[.int .i64 1, .string no, .int .i64 1, .string no] 62
  have hb1 := (Below.refl w.heap.size w).alloc (Nat.le_refl _) (.cells #[.int .i64 1, .string no, .int .i64 1, .string no] 62)
  refine (lNew_any _ 2 2 [⟨1, no⟩, ⟨1, no⟩] _ hs1 rfl (by omega)).mono ?_
  rintro e w1 ⟨g, f, rfl, hl1, hb2⟩
  have hl2 := hl1.mono (base' := w.heap.size) hb1.size
  have hb3 := bthen hb1 hb2
  clear hs1 hb1 hl1 hb2
  go_wp2_with fail
  have hs4 := sees_new w1 #[.int .i64 2, .string ⟨#[120]⟩] 62
  have hb4 := hb3.alloc hb3.size (.cells #[.int .i64 2, .string ⟨#[120]⟩] 62)
  have hl4 := hl2.on ((Below.refl _ _).alloc (Nat.le_refl _) (.cells #[.int .i64 2, .string ⟨#[120]⟩] 62))
  have hgl := hl2.lt
  refine (lPut_any w.heap.size g f [⟨1, no⟩, ⟨1, no⟩] 1 1 _ 1 1 [⟨2, ⟨#[120]⟩⟩] _ hl4 (by simp) hs4 rfl (Nat.le_refl _) (by omega) (fun _ a ha => by injection ha with ha; subst ha; simp only; omega) hb4.size).mono ?_
  rintro e w2 ⟨rfl, hm2⟩
  rw [fix7_put] at hm2 ⊢
  have hb5 := hb4.trans (hm2.below hl4 (Nat.le_refl _) hb4.size)
  obtain ⟨f2, hl5, _⟩ := hm2
  simp only at hl5
  clear hs4 hb4 hl4 hgl hl2 hb3
  go_wp2_with fail
  refine (lLast_any w.heap.size g f2 _ w2 hl5 (by simp)).mono ?_
  rintro e w3 ⟨rfl, rfl⟩
  rw [fix7_last]
  go_wp2_with fail
  refine (lPut_any w.heap.size g f2 _ 9 1 none 0 0 [] _ hl5 (by simp) (Ents.nil _ _ _) rfl (Nat.le_refl _) (by omega) (fun h => absurd h (by omega)) hb5.size).mono ?_
  rintro e w4 ⟨rfl, hm4⟩
  rw [fix7_put2] at hm4 ⊢
  have hb6 := hb5.trans (hm4.below hl5 (Nat.le_refl _) hb5.size)
  obtain ⟨f4, hl6, _⟩ := hm4
  simp only at hl6
  clear hl5 hb5
  go_wp2_with fail
  refine (lPut_any w.heap.size g f4 _ 2 1 none 0 0 [] _ hl6 (by simp) (Ents.nil _ _ _) rfl (Nat.le_refl _) (by omega) (fun h => absurd h (by omega)) hb6.size).mono ?_
  rintro e w5 ⟨rfl, hm5⟩
  rw [fix7_put3] at hm5 ⊢
  have hb7 := hb6.trans (hm5.below hl6 (Nat.le_refl _) hb6.size)
  obtain ⟨f5, hl7, _⟩ := hm5
  simp only at hl7
  clear hl6 hb6
  go_wp2_with fail
  refine (lPut_nil 0 0 (.slice none 0 0) w5).mono ?_
  rintro e w6 ⟨rfl, rfl⟩
  have HA := Lib.hid (lAdd_any w.heap.size g f5 [⟨1, no⟩, ⟨2, ⟨#[120]⟩⟩] ⟨1, no⟩ w6 hl7 (by simp) hb7.size)
  rw [fix7_add] at HA
  have HY := Lib.hid (fun (W : World) (f9 : Option Nat) (h : LogAt W w.heap.size g f9 [⟨1, no⟩, ⟨2, ⟨#[120]⟩⟩]) => lYounger_any w.heap.size g f9 _ 2 2 W h (by simp))
  have HY2 := Lib.hid (fun (W : World) (f9 : Option Nat) (h : LogAt W w.heap.size g f9 [⟨1, no⟩, ⟨2, ⟨#[120]⟩⟩]) => lYounger_any w.heap.size g f9 _ 9 1 W h (by simp))
  have HFR := Lib.hid (fun (W : World) (f9 : Option Nat) (h : LogAt W w.heap.size g f9 [⟨1, no⟩, ⟨2, ⟨#[120]⟩⟩]) => lFrom_any w.heap.size g f9 _ 2 5 W h (by simp) (by omega))
  simp only [fix7_young, fix7_young2] at HY HY2
  have HL7 := Lib.hid hl7
  have HB7 := Lib.hid hb7
  clear hl7 hb7
  go_wp2_with fail
  refine HA.out.mono ?_
  rintro e w7 ⟨rfl, hm7⟩
  simp only at hm7 ⊢
  have hb8 := HB7.out.trans (hm7.below HL7.out (Nat.le_refl _) HB7.out.size)
  obtain ⟨f7, hl8, _⟩ := hm7
  have HL8 := Lib.hid hl8
  clear hl8 HA HL7 HB7
  go_wp2_with fail
  refine (HY.out _ _ HL8.out).mono ?_
  rintro e w8 ⟨rfl, rfl⟩
  go_wp2_with fail
  refine (HY2.out _ _ HL8.out).mono ?_
  rintro e w9 ⟨rfl, rfl⟩
  go_wp2_with fail
  refine (HFR.out _ _ HL8.out).mono ?_
  rintro e w10 ⟨A10, n10, c10, rfl, hn10, _, hb10⟩
  rw [fix7_from] at hn10
  subst hn10
  have hb11 := bthen hb8 hb10
  clear hb8 hb10 HFR HY HY2 HL8
  go_wp2_with fail
  refine (lAdd_nil ⟨0, no⟩ w10).mono ?_
  rintro e w11 ⟨rfl, hb12⟩
  have hb13 := bthen hb11 hb12
  clear hb11 hb12
  go_wp2_with fail
  refine (lYounger_nil 9 9 w11).mono ?_
  rintro e w12 ⟨rfl, rfl⟩
  go_wp2_with fail
  refine (lAll_nil w12).mono ?_
  rintro e w13 ⟨rfl, rfl⟩
  go_wp2_with fail
  go_ret
  exact ⟨rfl, hb13⟩
end Go.Proofs.Ytcmeindekbjefaa
