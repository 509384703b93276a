/- The walks of package crc's Table: New, Add, Sum, Made. -/
import Derived.Test.YtnbkphdkpncjfaaC2
namespace Go.Proofs.Ytnbkphdkpncjfaa
open Go.RowKit

theorem u8_xor_cell (r : Nat) (x : UInt8) : bits BinOp.xor IntKind.u8 ((r : Int) % 256) (x.toNat : Int) = ((r % 256 ^^^ x.toNat : Nat) : Int) := by
  have h1 : r % 256 < 256 := Nat.mod_lt _ (by decide)
  have h2 : x.toNat < 256 := UInt8.toNat_lt x
  rw [show ((r : Int) % 256) = ((r % 256 : Nat) : Int) from by omega]
  exact u8_xor_nat _ _ h1 h2
theorem u32_xor_cell (a r : Nat) (ha : a < 4294967296) (hr : r < 4294967296) : bits BinOp.xor IntKind.u32 (a : Int) ((r : Int) / 256) = ((a ^^^ r / 256 : Nat) : Int) := by
  have h : r / 256 < 4294967296 := by omega
  rw [show ((r : Int) / 256) = ((r / 256 : Nat) : Int) from by omega]
  exact u32_xor_nat _ _ ha h

/-- where a slice stays as it is while the table's block turns -/
def Apart (w : World) (g : Nat) (A : Option Addr) (n : Nat) (xs : List Value) : Prop := ∃ B, ∀ w', w.grownBy w' (some g) → Sees w' B A n xs

set_option maxRecDepth 100000 in
set_option maxHeartbeats 1600000 in
/-- (*crc.Table).Add -/
theorem add_any (g : Nat) (made : Bool) (s : Nat) (A : Option Addr) (n c : Nat) (l : List UInt8) (w : World) (ht : Tbl w g made) (hs : s < 4294967296) (ha : Apart w g A n (cbs l)) (hn : n ≤ 9223372036854775807) :
    Calls Try.prog 33 #[.pointer (some ⟨g, 0, none⟩), .int .u32 (s : Int), .slice A n c] w fun e w' => e = .returned (.int .u32 ((4294967295 - reg (4294967295 - s) l : Nat) : Int)) ∧ Asked g w w' := by
  obtain ⟨B, hB⟩ := ha
  have HA := Lib.hid (asked_any g made w ht)
  have HSS := Lib.hid hB
  have hlen : l.length = n := by have := (hB w (gb_refl _ _)).1; simpa using this
  have HL := Lib.hid hlen
  have hflip := flip_cell s hs
  have hlt0 : 4294967295 - s < 4294967296 := by omega
  have HLT := Lib.hid hlt0
  have hsg : IntKind.u32.signed = false := rfl
  clear hB hlen ht hlt0
  go_enter Try.func33, Try.ntmps33
  go_wp2_with (go_at_call 68; refine HA.out.mono ?_; rintro e w1 ⟨rfl, hask⟩)
  obtain ⟨⟨ds, hblk, htab⟩, hg⟩ := id hask
  have hsee := HSS.out w1 hg
  generalize hR0 : 4294967295 - s = R0 at *
  go_loop [7, 22] (fun u i => ∃ k : Nat, k ≤ n ∧ i = .int .i64 k ∧ u = .int .u32 (reg R0 (l.take k) : Int)) (fun _ i => n - (intOf i).toNat)
  case atStart => exact ⟨0, Nat.zero_le _, rfl, rfl⟩
  case round =>
    obtain ⟨k, hk, rfl, rfl⟩ := hrel
    by_cases hlt : k < n
    · have hkl : k < l.length := by rw [HL.out]; exact hlt
      obtain ⟨b, off, u, rfl, _, hu, hc⟩ := hsee.at_ hlt
      rw [cbs_get, List.getElem?_eq_getElem hkl] at hu
      have hu' : cb l[k] = u := by simpa using hu
      subst hu'
      unfold cb at hc
      have hr := reg_lt (l.take k) HLT.out
      have HN := Lib.hid (reg_take_succ R0 l k hkl)
      generalize hxe : l[k] = x at *
      generalize reg R0 (l.take k) = r at *
      have hix : r % 256 ^^^ x.toNat < 256 := Nat.xor_lt_two_pow (n := 8) (Nat.mod_lt _ (by decide)) (UInt8.toNat_lt x)
      have hcell := htab.2.2.2.2 _ hix
      rw [← hblk.cell] at hcell
      have hx8 := u8_xor_cell r x
      have hx32 := u32_xor_cell (hvk 8 (r % 256 ^^^ x.toNat)) r (hvk_lt (by omega)) hr
      have HST := Lib.hid (step_table r x)
      generalize r % 256 ^^^ x.toNat = ix at *
      have HR := Lib.hid hr
      clear hxe hu hflip htab hblk hr
      go_wp2_with fail
      go_round
      case rel => exact ⟨k + 1, by omega, by go_num, by rw [HN.out, HST.out]⟩
      case measure => simp [intOf]; omega
    · have hk' : l.take k = l := List.take_of_length_le (by rw [HL.out]; omega)
      rw [hk']
      clear hk' hflip
      have hr := reg_lt l HLT.out
      have hf2 := flip_cell _ hr
      have HR0 := Lib.hid hR0
      clear hR0
      go_wp2_with fail
      go_ret
      exact ⟨ret_u32 (by rw [HR0.out]), hask⟩

set_option maxRecDepth 100000 in
/-- .. of nil -/
theorem add_nil (s : Int) (A : Option Addr) (n c : Nat) (w : World) :
    Calls Try.prog 33 #[.pointer none, .int .u32 s, .slice A n c] w fun e w' => e = .returned (.int .u32 0) ∧ w' = w := by
  go_enter Try.func33, Try.ntmps33
  go_wp2_with fail
  go_ret
  exact ⟨rfl, rfl⟩

set_option maxRecDepth 100000 in
/-- (*crc.Table).Sum -/
theorem sum_any (g : Nat) (made : Bool) (A : Option Addr) (n c : Nat) (l : List UInt8) (w : World) (ht : Tbl w g made) (ha : Apart w g A n (cbs l)) (hn : n ≤ 9223372036854775807) :
    Calls Try.prog 37 #[.pointer (some ⟨g, 0, none⟩), .slice A n c] w fun e w' => e = .returned (.int .u32 (crcOf l : Int)) ∧ Asked g w w' := by
  have HA := Lib.hid (add_any g made 0 A n c l w ht (by omega) ha hn)
  clear ht ha
  go_enter Try.func37, Try.ntmps37
  go_wp2_with (go_at_call 33; refine HA.out.mono ?_; rintro e w1 ⟨rfl, hask⟩)
  go_ret
  exact ⟨rfl, hask⟩
set_option maxRecDepth 100000 in
theorem sum_nil (A : Option Addr) (n c : Nat) (w : World) :
    Calls Try.prog 37 #[.pointer none, .slice A n c] w fun e w' => e = .returned (.int .u32 0) ∧ w' = w := by
  go_enter Try.func37, Try.ntmps37
  go_wp2_with (go_at_call 33; refine (add_nil _ _ _ _ _).mono ?_; rintro e w1 ⟨rfl, rfl⟩)
  go_ret
  exact ⟨rfl, rfl⟩

set_option maxRecDepth 100000 in
/-- (*crc.Table).Made -/
theorem made_any (g : Nat) (made : Bool) (w : World) (ht : Tbl w g made) :
    Calls Try.prog 35 #[.pointer (some ⟨g, 0, none⟩)] w fun e w' => e = .returned (.int .i64 (if made then 1 else 0)) ∧ w' = w := by
  obtain ⟨cs, hb, ht⟩ := ht
  cases made
  · have c0 : w.cell? ⟨g, 259, none⟩ = some (.int .i64 0) := by rw [hb.cell]; exact ht.2.2.2.1
    clear hb ht
    go_enter Try.func35, Try.ntmps35
    go_wp2_with fail
    go_ret
    exact ⟨rfl, rfl⟩
  · have c0 : w.cell? ⟨g, 259, none⟩ = some (.int .i64 1) := by rw [hb.cell]; exact ht.2.2.2.1
    clear hb ht
    go_enter Try.func35, Try.ntmps35
    go_wp2_with fail
    go_ret
    exact ⟨rfl, rfl⟩
set_option maxRecDepth 100000 in
theorem made_nil (w : World) :
    Calls Try.prog 35 #[.pointer none] w fun e w' => e = .returned (.int .i64 0) ∧ w' = w := by
  go_enter Try.func35, Try.ntmps35
  go_wp2_with fail
  go_ret
  exact ⟨rfl, rfl⟩

set_option maxRecDepth 100000 in
set_option maxHeartbeats 1600000 in
/-- crc.New -/
theorem new_any (w : World) :
    Calls Try.prog 32 #[] w fun e w' => e = .returned (.pointer (some ⟨w.heap.size, 0, none⟩)) ∧ Tbl w' w.heap.size false ∧ Below w.heap.size w w' := by
  go_enter Try.func32, Try.ntmps32
  go_wp2_with fail
  go_ret
  have hsz : Try.zeroCells104.size = 260 := by kernel_rfl
  refine ⟨rfl, ⟨_, Blk.new w _ _, hsz, by kernel_rfl, by kernel_rfl, by kernel_rfl, fun i hi => ⟨_, Array.getElem?_eq_getElem (by rw [hsz]; omega)⟩⟩, (Below.refl _ _).alloc (Nat.le_refl _) _⟩

theorem Asked.tbl {g : Nat} {w w' : World} (h : Asked g w w') : Tbl w' g true := by
  obtain ⟨⟨ds, h1, h2⟩, _⟩ := h
  exact ⟨ds, h1, h2⟩
theorem Tbl.lt {g : Nat} {w : World} {m : Bool} (h : Tbl w g m) : g < w.heap.size := by
  obtain ⟨cs, h1, _⟩ := h
  exact h1.lt
theorem Tbl.below {g B : Nat} {w w' : World} {m : Bool} (h : Tbl w g m) (hb : Below B w w') (hg : g < B) : Tbl w' g m := by
  obtain ⟨cs, h1, h2⟩ := h
  exact ⟨cs, h1.below hb hg, h2⟩
theorem Tbl.on {g : Nat} {w w' : World} {m : Bool} (h : Tbl w g m) (hb : Below w.heap.size w w') : Tbl w' g m := h.below hb h.lt
theorem Tbl.alloc {g : Nat} {w : World} {m : Bool} (h : Tbl w g m) (o : Obj) : Tbl (w.alloc o) g m := h.on ((Below.refl _ _).alloc (Nat.le_refl _) o)
theorem Tbl.grown {g : Nat} {w w' : World} {m : Bool} {r : Option Nat} (h : Tbl w g m) (hb : w.grownBy w' r) (hg : some g ≠ r) : Tbl w' g m := by
  obtain ⟨cs, h1, h2⟩ := h
  exact ⟨cs, h1.grown hb hg, h2⟩
/-- slices below the table, or nil, stay as they are -/
theorem apart_low {w : World} {g B n : Nat} {A : Option Addr} {xs : List Value} (h : Sees w B A n xs) (hB : B ≤ g) (hz : B ≤ w.heap.size) : Apart w g A n xs :=
  ⟨B, fun w' hg => h.grown hg hz (fun g' e => by injection e with e; omega)⟩
/-- slices in a row behind the table -/
theorem apart_new {w : World} {g b t n : Nat} {cs : Array Value} (hb : Blk w b t cs) (hne : b ≠ g) (hn : cs.size = n) : Apart w g (some ⟨b, 0, none⟩) n cs.toList :=
  ⟨b + 1, fun w' hg => ⟨by simp [hn], fun _ => ⟨b, 0, rfl, by omega, fun j u hu => by
    rw [(hb.grown hg (fun e => hne (by injection e))).cell, Nat.zero_add]
    simpa using hu⟩⟩⟩
theorem apart_own {w : World} {g base n m c : Nat} {made : Bool} {A : Option Addr} {xs : List Value} (h : w.ownsRow base 5 1 (.slice A n c) n xs) (ht : Tbl w g made) : Apart w g A n xs := by
  obtain ⟨cs, hblk, _⟩ := ht
  have hne : (Value.slice A n c).ownBlock = none ∨ (Value.slice A n c).ownBlock ≠ some g := by
    rcases h.2 with ⟨hv, _⟩ | ⟨b, cap, cur, hv, _, hh, _⟩
    · rw [hv]; exact .inl rfl
    · refine .inr (fun e => ?_)
      rw [hv] at e
      simp [Value.ownBlock] at e
      subst e
      unfold Blk at hblk
      rw [hblk] at hh
      simp at hh
  exact ⟨w.heap.size + 1 + m, fun w' hg => by
    have h2 := Sees.of_own (h.kept hg hne)
    refine ⟨h2.1, fun hn => ?_⟩
    obtain ⟨b, off, hA, hb, hc⟩ := h2.2 hn
    rcases h.2 with ⟨hv, h0⟩ | ⟨b', cap, cur, hv, _, hh, _⟩
    · omega
    · have hA' : A = some ⟨b', 0, none⟩ := by injection hv
      rw [hA] at hA'
      injection hA' with hA'
      injection hA' with hbb
      have hlt := (Array.getElem?_eq_some_iff.1 hh).1
      exact ⟨b, off, hA, by omega, hc⟩⟩
/-- a slice that lies in another block -/
theorem apart_one {w : World} {g B b off n : Nat} {xs : List Value} (h : Sees w B (some ⟨b, off, none⟩) n xs) (hne : b ≠ g) (hb : b < w.heap.size) : Apart w g (some ⟨b, off, none⟩) n xs :=
  ⟨B, fun w' hg => ⟨h.1, fun hn => by
    obtain ⟨b', off', hA, hlt, hc⟩ := h.2 hn
    injection hA with hA
    injection hA with h1 h2
    subst h1
    subst h2
    exact ⟨b, off, rfl, hlt, fun j u hu => (World.cell?_of_block (hg.block b hb (fun e => hne (by injection e)))).trans (hc j u hu)⟩⟩⟩
theorem apart_none {w : World} {g : Nat} : Apart w g none 0 [] := ⟨0, fun _ _ => Sees.none_ _ _ _⟩
/-- a row that was just made, with its mark -/
theorem sees_mark (w : World) (cs : Array Value) (t : TypeId) (fr : Nat × Nat) : Sees (w.alloc (.cells cs t fr)) (w.alloc (.cells cs t fr)).heap.size (some ⟨w.heap.size, 0, none⟩) cs.size cs.toList := by
  refine ⟨by simp, fun _ => ⟨w.heap.size, 0, rfl, by simp, fun j u hu => ?_⟩⟩
  rw [cell_of_row _ w.heap.size (0 + j) cs t fr (heap_alloc_new w _), Nat.zero_add]
  simpa using hu
end Go.Proofs.Ytnbkphdkpncjfaa
