/- The walks of package disk: bytes, the first so many of which are synced. -/
import Derived.Test.YtmhgbpgbnfdokaaF1
namespace Go.Proofs.Ytmhgbpgbnfdokaa
open Go.RowKit

/-- the disk that lies in block g: all its bytes, and how many are synced; what it has lies from block `base` on -/
def Dsk (w : World) (base g : Nat) (all : List UInt8) (s : Nat) : Prop :=
  ∃ A c, Blk w g 101 #[.slice A all.length c, .int .i64 (s : Int)] ∧ base ≤ g ∧ Free w base 5 A all.length c (cbs all) ∧ s ≤ all.length
theorem Dsk.lt {w : World} {base g s : Nat} {all : List UInt8} (h : Dsk w base g all s) : g < w.heap.size := by
  obtain ⟨A, c, h1, _⟩ := h
  exact h1.lt
theorem Dsk.on {w w' : World} {base g s : Nat} {all : List UInt8} (h : Dsk w base g all s) (hb : Below w.heap.size w w') : Dsk w' base g all s := by
  obtain ⟨A, c, h1, h2, h3, h4⟩ := h
  exact ⟨A, c, h1.below hb h1.lt, h2, h3.on hb, h4⟩
theorem Dsk.drew {w : World} {base g s : Nat} {all : List UInt8} (h : Dsk w base g all s) : Dsk w.drew base g all s := h
theorem Dsk.drewN {w : World} {base g s : Nat} {all : List UInt8} (h : Dsk w base g all s) (k : Nat) : Dsk (w.drewN k) base g all s := h
theorem Dsk.alloc {w : World} {base g s : Nat} {all : List UInt8} (h : Dsk w base g all s) (o : Obj) : Dsk (w.alloc o) base g all s := h.on ((Below.refl _ _).alloc (Nat.le_refl _) o)

/-- a disk's row lies in another block than the disk -/
theorem free_apart {w : World} {base g n c : Nat} {A : Option Addr} {xs : List Value} {cs : Array Value} (hb : Blk w g 101 cs) (h : Free w base 5 A n c xs) : 0 < c → ∀ a, A = some a → a.block ≠ g := by
  intro hc a ha e
  obtain ⟨g', off, cur, hA, _, hB, _⟩ := h.2.2.2 hc
  rw [hA] at ha
  injection ha with ha
  subst ha
  simp only at e
  subst e
  unfold Blk at hb hB
  rw [hb] at hB
  injection hB with hB
  injection hB with _ ht
  exact absurd ht (by decide)
/-- .. so a cell of the disk may be stored -/
theorem free_store {w : World} {base g n c k : Nat} {A : Option Addr} {xs : List Value} {cs : Array Value} (hb : Blk w g 101 cs) (h : Free w base 5 A n c xs) (u : Value) : Free (w.setCell ⟨g, k, none⟩ u) base 5 A n c xs := by
  by_cases hc : 0 < c
  · exact h.far (fun a ha _ => free_apart hb h hc a ha) u
  · exact ⟨h.1, h.2.1, h.2.2.1, fun hp => absurd hp hc⟩

set_option maxRecDepth 100000 in
set_option maxHeartbeats 400000 in
/-- disk.New -/
theorem dNew_any (w : World) :
    Calls Try.prog 20 #[] w fun e w' => e = .returned (.pointer (some ⟨w.heap.size, 0, none⟩)) ∧ Dsk w' w.heap.size w.heap.size [] 0 ∧ Below w.heap.size w w' := by
  go_enter Try.func20, Try.ntmps20
  go_wp2_with fail
  go_ret
  exact ⟨rfl, ⟨none, 0, Blk.new w _ _, Nat.le_refl _, Free.nil _ _ _, Nat.le_refl _⟩, (Below.refl _ _).alloc (Nat.le_refl _) _⟩

set_option maxRecDepth 100000 in
set_option maxHeartbeats 400000 in
/-- (*disk.Disk).Synced -/
theorem dSynced_any (base g s : Nat) (all : List UInt8) (w : World) (h : Dsk w base g all s) :
    Calls Try.prog 75 #[.pointer (some ⟨g, 0, none⟩)] w fun e w' => e = .returned (.int .i64 (s : Int)) ∧ w' = w := by
  obtain ⟨A, c, hb, _⟩ := h
  have c1 : w.cell? ⟨g, 1, none⟩ = some (.int .i64 (s : Int)) := by rw [hb.cell]; rfl
  clear hb
  go_enter Try.func75, Try.ntmps75
  go_wp2_with fail
  go_ret
  exact ⟨rfl, rfl⟩
set_option maxRecDepth 100000 in
theorem dSynced_nil (w : World) :
    Calls Try.prog 75 #[.pointer none] w fun e w' => e = .returned (.int .i64 0) ∧ w' = w := by
  go_enter Try.func75, Try.ntmps75
  go_wp2_with fail
  go_ret
  exact ⟨rfl, rfl⟩

set_option maxRecDepth 100000 in
set_option maxHeartbeats 400000 in
/-- (*disk.Disk).Bytes -/
theorem dBytes_any (base g s : Nat) (all : List UInt8) (w : World) (h : Dsk w base g all s) (hn : all.length ≤ 140737488355328) :
    Calls Try.prog 74 #[.pointer (some ⟨g, 0, none⟩)] w fun e w' => ∃ A c, e = .returned (.slice A all.length c) ∧ Free w' w.heap.size 5 A all.length c (cbs all) ∧ Below w.heap.size w w' := by
  obtain ⟨A, c, hb, _, hf, _⟩ := h
  have c0 : w.cell? ⟨g, 0, none⟩ = some (.slice A all.length c) := by rw [hb.cell]; rfl
  clear hb
  have HB := Lib.hid (bclone_any A all.length c all _ w hf.sees (Nat.le_refl _) hn)
  clear hf
  go_enter Try.func74, Try.ntmps74
  go_wp2_with (go_at_call 102; refine HB.out.mono ?_; rintro e w1 ⟨A1, c1, rfl, hf1, hb1⟩)
  go_ret
  exact ⟨A1, c1, rfl, hf1, hb1⟩
set_option maxRecDepth 100000 in
theorem dBytes_nil (w : World) :
    Calls Try.prog 74 #[.pointer none] w fun e w' => e = .returned (.slice none 0 0) ∧ w' = w := by
  go_enter Try.func74, Try.ntmps74
  go_wp2_with fail
  go_ret
  exact ⟨rfl, rfl⟩

set_option maxRecDepth 100000 in
set_option maxHeartbeats 400000 in
/-- (*disk.Disk).Sync -/
theorem dSync_any (base g s : Nat) (all : List UInt8) (w : World) (h : Dsk w base g all s) :
    Calls Try.prog 21 #[.pointer (some ⟨g, 0, none⟩)] w fun e w' => e = .returned (.int .i64 0) ∧ Dsk w' base g all all.length ∧ Below base w w' := by
  obtain ⟨A, c, hb, hg, hf, hs⟩ := h
  have c0 : w.cell? ⟨g, 0, none⟩ = some (.slice A all.length c) := by rw [hb.cell]; rfl
  have f1 := hb.frozen 1
  have c1 : w.cell? ⟨g, 1, none⟩ = some (.int .i64 (s : Int)) := by rw [hb.cell]; rfl
  have HB := Lib.hid (hb.set_ 1 (.int .i64 (all.length : Int)))
  have HF := Lib.hid (free_store (k := 1) hb hf (.int .i64 (all.length : Int)))
  clear hb hf hs
  go_enter Try.func21, Try.ntmps21
  go_wp2_with fail
  go_ret
  exact ⟨rfl, ⟨A, c, HB.out, hg, HF.out, Nat.le_refl _⟩, (Below.refl base w).setCell (by simpa using hg) _⟩
set_option maxRecDepth 100000 in
theorem dSync_nil (w : World) :
    Calls Try.prog 21 #[.pointer none] w fun e w' => e = .returned (.int .i64 1) ∧ w' = w := by
  go_enter Try.func21, Try.ntmps21
  go_wp2_with fail
  go_ret
  exact ⟨rfl, rfl⟩

/-- the bytes behind a writing, if there aren't too many -/
def writeF (all l : List UInt8) : List UInt8 × Nat := if 1048576 < all.length + l.length then (all, 7) else (all ++ l, 0)

set_option maxRecDepth 100000 in
set_option maxHeartbeats 800000 in
/-- (*disk.Disk).Write -/
theorem dWrite_any (base g s : Nat) (all : List UInt8) (A2 : Option Addr) (m c2 : Nat) (l : List UInt8) (w : World) (h : Dsk w base g all s) (hs2 : Sees w w.heap.size A2 m (cbs l)) (hm : m ≤ 140737488351232) (hz : base ≤ w.heap.size) (hall : all.length ≤ 1048576) :
    Calls Try.prog 72 #[.pointer (some ⟨g, 0, none⟩), .slice A2 m c2] w fun e w' => e = .returned (.int .i64 ((writeF all l).2 : Int)) ∧ Dsk w' base g (writeF all l).1 s ∧ Below base w w' := by
  have HD := Lib.hid h
  obtain ⟨A, c, hb, hg, hf, hs⟩ := h
  have hlen : l.length = m := by have := hs2.1; simpa using this
  have c0 : w.cell? ⟨g, 0, none⟩ = some (.slice A all.length c) := by rw [hb.cell]; rfl
  have hW : writeF all l = if 1048576 < all.length + m then (all, 7) else (all ++ l, 0) := by unfold writeF; rw [hlen]
  rw [hW]
  clear hW
  by_cases hbig : 1048576 < all.length + m
  · rw [if_pos hbig]
    have hb1 : (1048576 : Int) - (all.length : Int) < (m : Int) := by omega
    clear hb hf hs
    go_enter Try.func72, Try.ntmps72
    go_wp2_with fail
    go_ret
    exact ⟨rfl, HD.out, Below.refl _ _⟩
  · rw [if_neg hbig]
    have hb1 : ¬ (1048576 : Int) - (all.length : Int) < (m : Int) := by omega
    obtain ⟨i0, hi0, hy0, hy1, hy2⟩ := info_parts u8_row
    have hm1 : all.length + m ≤ maxLen := Nat.le_trans (show all.length + m ≤ 140737488355328 by omega) (by decide)
    have hm2 : (all.length + m) * 1 ≤ 140737488355328 := by omega
    have HB := Lib.hid hb
    have HLEN := Lib.hid hlen
    have HG := Lib.hid hg
    have HS := Lib.hid hs
    clear hb hlen hbig HD hg hs
    go_enter Try.func72, Try.ntmps72
    go_wp2_with (at_builtin; refine wpList_append_free _ rfl (.tmp 20) (.tmp 21) _ rfl base 5 i0 _ 1 sl_u8 hi0 hy0 hy1 hy2 rfl A all.length c (cbs all) rfl hf (cbs_one _) _ A2 m c2 (cbs l) rfl hs2 (cbs_one _) hm1 hm2 hz ?_
                 intro A3 c3 w3 ha
                 have hf3 := ha.1
                 have hb3 := ha.below hf (Below.refl base w) hz (Nat.le_refl _)
                 have hblk3 : Blk w3 g 101 #[.slice A all.length c, .int .i64 (s : Int)] := (by
                   rcases ha.row hf with hgr | ⟨q, cur, _, hq, hgr⟩
                   · exact HB.out.grown hgr (by simp)
                   · refine HB.out.grown hgr (fun e => ?_)
                     injection e with e
                     subst e
                     have h1 := HB.out
                     unfold Blk at h1 hq
                     rw [h1] at hq
                     injection hq with hq
                     injection hq with _ ht
                     exact absurd ht (by decide))
                 have d0 : w3.cell? ⟨g, 0, none⟩ = some (.slice A all.length c) := (by rw [hblk3.cell]; rfl)
                 have f0 := hblk3.frozen 0
                 rw [← cbs_append] at hf3
                 have HB3 := Lib.hid (hblk3.set_ 0 (.slice A3 (all.length + m) c3))
                 have HF3 := Lib.hid (free_store (k := 0) hblk3 hf3 (.slice A3 (all.length + m) c3))
                 clear ha hf hs2 hblk3 hf3 c0)
    go_ret
    have e1 : (all ++ l).length = all.length + m := by rw [List.length_append, HLEN.out]
    exact ⟨rfl, ⟨A3, c3, by rw [e1]; exact HB3.out, HG.out, by rw [e1]; exact HF3.out, by rw [e1]; have := HS.out; omega⟩, hb3.setCell (by simpa using HG.out) _⟩
set_option maxRecDepth 100000 in
theorem dWrite_nil (v : Value) (w : World) :
    Calls Try.prog 72 #[.pointer none, v] w fun e w' => e = .returned (.int .i64 1) ∧ w' = w := by
  go_enter Try.func72, Try.ntmps72
  go_wp2_with fail
  go_ret
  exact ⟨rfl, rfl⟩
end Go.Proofs.Ytmhgbpgbnfdokaa
