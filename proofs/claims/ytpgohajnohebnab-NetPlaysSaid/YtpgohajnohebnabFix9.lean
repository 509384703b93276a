/- The fixed facts at the head of layer 9's statements: they hold, whatever the world. -/
import Derived.Test.YtpgohajnohebnabNi2
import Derived.Test.YtpgohajnohebnabNs2
namespace Go.Proofs.Ytpgohajnohebnab
open Go.RowKit

set_option maxRecDepth 100000 in
theorem iSend_nil (v : Int) (w : World) : Calls Try.prog 7 #[.pointer none, .int .i64 v] w fun e w' => e = .returned (.int .i64 1) ∧ w' = w := by
  go_enter Try.func7, Try.ntmps7
  go_wp2_with fail
  go_ret
  exact ⟨rfl, rfl⟩
set_option maxRecDepth 100000 in
theorem iLen_nil (w : World) : Calls Try.prog 12 #[.pointer none] w fun e w' => e = .returned (.int .i64 0) ∧ w' = w := by
  go_enter Try.func12, Try.ntmps12
  go_wp2_with fail
  go_ret
  exact ⟨rfl, rfl⟩
set_option maxRecDepth 100000 in
theorem iAll_nil (w : World) : Calls Try.prog 11 #[.pointer none] w fun e w' => e = .returned (.slice none 0 0) ∧ w' = w := by
  go_enter Try.func11, Try.ntmps11
  go_wp2_with fail
  go_ret
  exact ⟨rfl, rfl⟩
set_option maxRecDepth 100000 in
theorem iClear_nil (w : World) : Calls Try.prog 10 #[.pointer none] w fun e w' => e = .returned (.tuple #[]) ∧ w' = w := by
  go_enter Try.func10, Try.ntmps10
  go_wp2_with fail
  go_end0
  exact ⟨rfl, rfl⟩

set_option maxRecDepth 100000 in
set_option maxHeartbeats 1600000 in
theorem fixed9_any (w : World) :
    Calls Try.prog 5 #[] w fun e w' => e = .returned (.bool true) ∧ Below w.heap.size w w' := by
  go_enter Try.func5, Try.ntmps5
  go_wp2_with fail
  refine (sNew_any w).mono ?_
  rintro e w1 ⟨g, rfl, hn1, hb1⟩
  have HR := Lib.hid (Nat.le_refl w.heap.size)
  have hq := sSend_any _ g _ [] ⟨#[97]⟩ w1 hn1 hb1.size
  rw [show sendFs [] ⟨#[97]⟩ = ([⟨#[97]⟩], 0) from rfl] at hq
  have HQ := Lib.hid hq
  clear hq
  go_wp2_with fail
  refine HQ.out.mono ?_
  rintro e w2 ⟨rfl, hm⟩
  obtain ⟨f2, hn2, hb2⟩ := NetMoves.step HR.out hb1 hn1 HR.out hm
  clear hm hn1 hb1 HQ
  have hq := sSend_any _ g _ [⟨#[97]⟩] ⟨#[98]⟩ w2 hn2 hb2.size
  rw [show sendFs [⟨#[97]⟩] ⟨#[98]⟩ = ([⟨#[97]⟩, ⟨#[98]⟩], 0) from rfl] at hq
  have HQ := Lib.hid hq
  clear hq
  go_wp2_with fail
  refine HQ.out.mono ?_
  rintro e w3 ⟨rfl, hm⟩
  obtain ⟨f3, hn3, hb3⟩ := NetMoves.step HR.out hb2 hn2 HR.out hm
  clear hm hn2 hb2 HQ
  have hq := sDouble_any _ g _ [⟨#[97]⟩, ⟨#[98]⟩] 0 w3 hn3 (by decide) hb3.size
  rw [show sendFs [⟨#[97]⟩, ⟨#[98]⟩] ([(⟨#[97]⟩ : ByteArray), ⟨#[98]⟩][0]) = ([⟨#[97]⟩, ⟨#[98]⟩, ⟨#[97]⟩], 0) from rfl] at hq
  have HQ := Lib.hid hq
  clear hq
  go_wp2_with fail
  refine HQ.out.mono ?_
  rintro e w4 ⟨rfl, hm⟩
  obtain ⟨f4, hn4, hb4⟩ := NetMoves.step HR.out hb3 hn3 HR.out hm
  clear hm hn3 hb3 HQ
  have hq := sTake_any _ g _ [⟨#[97]⟩, ⟨#[98]⟩, ⟨#[97]⟩] 1 w4 hn4 (by decide) (by decide)
  rw [show ([(⟨#[97]⟩ : ByteArray), ⟨#[98]⟩, ⟨#[97]⟩][1]) = ⟨#[98]⟩ from rfl, show ([(⟨#[97]⟩ : ByteArray), ⟨#[98]⟩, ⟨#[97]⟩].eraseIdx 1) = [⟨#[97]⟩, ⟨#[97]⟩] from rfl] at hq
  have HQ := Lib.hid hq
  clear hq
  go_wp2_with fail
  refine HQ.out.mono ?_
  rintro e w5 ⟨rfl, hm⟩
  obtain ⟨f5, hn5, hb5⟩ := NetMoves.step HR.out hb4 hn4 HR.out hm
  clear hm hn4 hb4 HQ
  have HN5 := Lib.hid hn5
  have HB5 := Lib.hid hb5
  have HQ := Lib.hid (sAll_any _ g _ [⟨#[97]⟩, ⟨#[97]⟩] w5 hn5 (by decide))
  clear hn5 hb5
  go_wp2_with fail
  refine HQ.out.mono ?_
  rintro e w6 ⟨A6, c6, rfl, hf6, hb6⟩
  obtain ⟨b6, off6, rfl, hcell⟩ := s_at hf6 rfl 1 (by decide)
  have hcell' : w6.cell? ⟨b6, off6 + 1, none⟩ = some (.string ⟨#[97]⟩) := hcell
  have HB6 := Lib.hid (bthen HB5.out hb6)
  have HQ2 := Lib.hid (sTake_none _ g _ [⟨#[97]⟩, ⟨#[97]⟩] 9 w6 (NetAt.on HN5.out hb6) (by decide))
  clear hf6 hb6 HN5 HB5 HQ hcell
  go_wp2_with fail
  refine HQ2.out.mono ?_
  rintro e w7 ⟨rfl, rfl⟩
  clear HQ2
  go_wp2_with fail
  refine (iTake_nil 0 _).mono ?_
  rintro e w8 ⟨rfl, rfl⟩
  go_wp2_with fail
  refine (iClear_nil _).mono ?_
  rintro e w9 ⟨rfl, rfl⟩
  go_wp2_with fail
  refine (iSend_nil 1 _).mono ?_
  rintro e w10 ⟨rfl, rfl⟩
  go_wp2_with fail
  refine (iLen_nil _).mono ?_
  rintro e w11 ⟨rfl, rfl⟩
  go_wp2_with fail
  refine (iAll_nil _).mono ?_
  rintro e w12 ⟨rfl, rfl⟩
  go_wp2_with fail
  go_ret
  exact ⟨rfl, HB6.out⟩
end Go.Proofs.Ytpgohajnohebnab
