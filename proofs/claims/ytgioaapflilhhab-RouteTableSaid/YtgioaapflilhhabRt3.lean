/- Package route: a table whose map is kept in an atomic pointer. -/
import Derived.Test.YtgioaapflilhhabRt2
import Derived.Laws.LoneSync
import Derived.Laws.Tables
import Derived.LaidEqlPtr
namespace Go.Proofs.Ytgioaapflilhhab
open Go.RowKit

section
variable {P : Program} {f : FuncId} {fn : Func}
/-- sync/atomic.LoadPointer: what the cell holds -/
theorem run_ptr_load (hf : P.funcs[f]? = some fn) (hname : (fn.name == "runtime.NumGoroutine") = false) (hb : fn.body.isNone = true) (hn : Extern.findNext fn = none)
    (he : Extern.find fn = some (Extern.Atomic.loadT .ptr)) {a : Addr} {x : Option Addr} {w : World} (hc : w.cell? a = some (.pointer x)) :
    (callFunc f #[.pointer (some a)]).run P w = .ok (.value (.pointer x)) w := by
  rw [run_callFunc_extern hf hname hb hn he]
  change (Sem.run P (do Extern.Atomic.read .ptr (← asAddr (.pointer (some a)))) w).andThen _ = _
  simp [Extern.Atomic.read, asAddr, hc, Result.andThen]
/-- sync/atomic.StorePointer: the pointer is stored -/
theorem run_ptr_store (hf : P.funcs[f]? = some fn) (hname : (fn.name == "runtime.NumGoroutine") = false) (hb : fn.body.isNone = true) (hn : Extern.findNext fn = none)
    (he : Extern.find fn = some Extern.Atomic.storeT) {a : Addr} {y : Option Addr} {u : Value} {w : World} (hc : w.cell? a = some u) (hz : w.frozen? a = false) :
    (callFunc f #[.pointer (some a), .pointer y]).run P w = .ok (.value (.tuple #[])) (w.setCell a (.pointer y)) := by
  rw [run_callFunc_extern hf hname hb hn he]
  change (Sem.run P (do
    store (← asAddr (.pointer (some a))) (.pointer y) .atomic
    pure Extern.Atomic.none_) w).andThen _ = _
  simp [asAddr, hc, hz, run_store P w a (.pointer y) .atomic rfl, Result.andThen, Extern.Atomic.none_]
/-- sync/atomic.CompareAndSwapPointer where the cell holds 'old' -/
theorem run_ptr_cas_hit (hf : P.funcs[f]? = some fn) (hname : (fn.name == "runtime.NumGoroutine") = false) (hb : fn.body.isNone = true) (hn : Extern.findNext fn = none)
    (he : Extern.find fn = some (Extern.Atomic.casT .ptr)) {a x : Addr} {y : Option Addr} {w : World} (hc : w.cell? a = some (.pointer (some x))) (hz : w.frozen? a = false) :
    (callFunc f #[.pointer (some a), .pointer (some x), .pointer y]).run P w = .ok (.value (.bool true)) (w.setCell a (.pointer y)) := by
  rw [run_callFunc_extern hf hname hb hn he]
  change (Sem.run P (do
    let a' ← asAddr (.pointer (some a))
    if ← Extern.Atomic.touchesFrozen a' then unsupported (.unsafePointer "a write to bytes that a string shares")
    let eq ← match Extern.Atomic.T.ptr, ← Extern.Atomic.read .ptr a', Value.pointer (some x) with
      | _, .int _ x, .int _ y => pure (x == y)
      | .ptr, .pointer x, .pointer y => samePointer x y
      | .int _, .pointer (some _), .int _ 0 | .int _, .int _ 0, .pointer (some _) => pure false
      | .int _, .pointer (some _), _ | .int _, _, .pointer (some _) => unsupported .addressObserved
      | _, _, _ => stuck "atomic.CompareAndSwap: old is no T"
    if eq then store a' (.pointer y) .atomic
    pure (Value.bool eq)) w).andThen _ = _
  simp [Extern.Atomic.touchesFrozen, Extern.Atomic.read, asAddr, viewAt, samePointer, sameAddr, World.shape?_isSome_of_cell? hc, hc, hz, run_store P w a (.pointer y) .atomic rfl, Result.andThen]
/-- an unsafe.Pointer that is the address of a variable of that type, turned back -/
theorem run_convert_from_unsafe {src dst u : TypeId} {n k : Nat} (hs : P.underlying src = some .unsafePointer) (hd : P.underlying dst = some (.pointer u)) (hz : (P.info? u).map (fun i => decide (i.size = 0)) = some false)
    (hk : P.cellsOf u = k) (hl : liesAt P P.depth u (n / k) 0 u 1 = true) {b : Nat} {w : World} (hsh : w.shape? b = some (u, n)) :
    (convert src dst (.pointer (some ⟨b, 0, none⟩))).run P w = .ok (.pointer (some ⟨b, 0, none⟩)) w := by
  obtain ⟨i, hi, hz0⟩ := Option.map_eq_some_iff.1 hz
  have hz : i.size ≠ 0 := by simpa using hz0
  simp [convert, Conv.unsafePointer, Conv.seenAt, viewAt, variablesAt, sizeOf, typeInfo, run_underlying hs, run_underlying hd, hi, hz, hsh, hk, hl, Result.andThen]
end

theorem Blk.shape {w : World} {g : Nat} {t : TypeId} {cs : Array Value} (h : Blk w g t cs) : w.shape? g = some (t, cs.size) := by
  unfold Blk at h
  simp [World.shape?, h]

theorem ld_call {a : Addr} {x : Option Addr} {w : World} (hc : w.cell? a = some (.pointer x)) : (callFunc 56 #[.pointer (some a)]).run Try.prog w = .ok (.value (.pointer x)) w :=
  run_ptr_load Try.func56 (by kernel_rfl) (by kernel_rfl) (by kernel_rfl) (by kernel_rfl) hc
theorem st_call {a : Addr} {y : Option Addr} {u : Value} {w : World} (hc : w.cell? a = some u) (hz : w.frozen? a = false) : (callFunc 41 #[.pointer (some a), .pointer y]).run Try.prog w = .ok (.value (.tuple #[])) (w.setCell a (.pointer y)) :=
  run_ptr_store Try.func41 (by kernel_rfl) (by kernel_rfl) (by kernel_rfl) (by kernel_rfl) hc hz
theorem cas_call {a x : Addr} {y : Option Addr} {w : World} (hc : w.cell? a = some (.pointer (some x))) (hz : w.frozen? a = false) : (callFunc 43 #[.pointer (some a), .pointer (some x), .pointer y]).run Try.prog w = .ok (.value (.bool true)) (w.setCell a (.pointer y)) :=
  run_ptr_cas_hit Try.func43 (by kernel_rfl) (by kernel_rfl) (by kernel_rfl) (by kernel_rfl) hc hz
theorem to_ptr {a : Addr} {v : Value} {w : World} (hc : w.cell? a = some v) : (convert 63 67 (.pointer (some a))).run Try.prog w = .ok (.pointer (some a)) w :=
  run_convert_to_unsafe Try.underlying63 Try.underlying67 (by kernel_rfl) hc
theorem from_ptr {b : Nat} {cs : Array Value} {w : World} (hb : Blk w b 74 cs) (hc : cs.size = 2) : (convert 67 63 (.pointer (some ⟨b, 0, none⟩))).run Try.prog w = .ok (.pointer (some ⟨b, 0, none⟩)) w :=
  run_convert_from_unsafe (n := 2) (k := 2) Try.underlying67 Try.underlying63 (by kernel_rfl) (by kernel_rfl) (by kernel_rfl) (by rw [hb.shape, hc])

theorem build_table (W : World) : (Instr.build 71 #[]).run Try.prog W = .ok (.agg #[.pointer none]) W := run_build W _ _ _ (by kernel_rfl)
theorem build_numbered (m : Option Addr) (k : Int) (W : World) : (Instr.build 74 #[(0, .pointer m), (1, .int .i64 k)]).run Try.prog W = .ok (.agg #[.pointer m, .int .i64 k]) W := run_build W _ _ _ (by kernel_rfl)

theorem run_neq_ptr_same {P : Program} (w : World) {tp te : TypeId} {j : TypeInfo} (a : Addr) (hp : P.underlying tp = some (.pointer te)) (hte : P.info? te = some j) :
    (binOp .neq tp (.pointer (some a)) (.pointer (some a))).run P w = .ok (.bool false) w := by
  have h : ∀ d : Nat, (Op.equalIn (d + 1) tp (.pointer (some a)) (.pointer (some a))).run P w = .ok true w := fun d => by
    simp [Op.equalIn, run_underlying hp, sizeOf, typeInfo, hte, run_sameAddr_same]
  simp only [binOp]
  simp [Op.equal, Op.maxDepth, h 9999]
theorem map_row : (Try.prog.info? 57).map (fun i => i.size) = some 1 := by kernel_rfl
theorem map_info : ∃ j, Try.prog.info? 57 = some j := by
  obtain ⟨j, hj, _⟩ := Option.map_eq_some_iff.1 map_row
  exact ⟨j, hj⟩
theorem eql_map (a : Addr) (W : World) : (binOp .eql 25 (.pointer (some a)) (.pointer (some a))).run Try.prog W = .ok (.bool true) W := by
  obtain ⟨j, hj⟩ := map_info
  exact run_eql_ptr_same W a Try.underlying25 hj
theorem neq_map (a : Addr) (W : World) : (binOp .neq 25 (.pointer (some a)) (.pointer (some a))).run Try.prog W = .ok (.bool false) W := by
  obtain ⟨j, hj⟩ := map_info
  exact run_neq_ptr_same W a Try.underlying25 hj

/-- the table that lies in block t: its map, and the number -/
def TabAt (w : World) (t : Nat) (m : Option Addr) (k : Int) : Prop :=
  ∃ nb, Blk w t 71 #[.pointer (some ⟨nb, 0, none⟩)] ∧ Blk w nb 74 #[.pointer m, .int .i64 k]
theorem TabAt.lt {w : World} {t : Nat} {m : Option Addr} {k : Int} (h : TabAt w t m k) : t < w.heap.size := by
  obtain ⟨nb, h1, _⟩ := h
  exact h1.lt
theorem TabAt.on {w w' : World} {t : Nat} {m : Option Addr} {k : Int} (h : TabAt w t m k) (hb : Below w.heap.size w w') : TabAt w' t m k := by
  obtain ⟨nb, h1, h2⟩ := h
  exact ⟨nb, h1.below hb h1.lt, h2.below hb h2.lt⟩

/-- a map is as it was where a table has turned -/
theorem MapAt.turned {w w' : World} {g t : Nat} {l : List ByteArray} {m : Option Addr} {k : Int} (h : MapAt w g l) (hg : w.grownBy w' (some t)) (ht : TabAt w t m k) : MapAt w' g l := by
  obtain ⟨nb, h3, _⟩ := ht
  exact h.grown hg (fun b hb => by injection hb with hb; subst hb; exact ⟨_, _, h3, by decide, by decide⟩)
/-- so is a table where blocks of other types have turned -/
theorem TabAt.grown {w w' : World} {t : Nat} {m : Option Addr} {k : Int} {row : Option Nat} (h : TabAt w t m k) (hg : w.grownBy w' row) (hr : ∀ b, row = some b → ∃ ty cs, Blk w b ty cs ∧ ty ≠ 71 ∧ ty ≠ 74) : TabAt w' t m k := by
  obtain ⟨nb, h1, h2⟩ := h
  refine ⟨nb, h1.grown hg (fun e => ?_), h2.grown hg (fun e => ?_)⟩
  · obtain ⟨ty, cs, hb, h5, _⟩ := hr t e.symm
    exact h1.apart hb (Ne.symm h5) rfl
  · obtain ⟨ty, cs, hb, _, h5⟩ := hr nb e.symm
    exact h2.apart hb (Ne.symm h5) rfl

set_option maxHeartbeats 400000 in
theorem load_any (t nb : Nat) (m : Option Addr) (k : Int) (w : World) (h1 : Blk w t 71 #[.pointer (some ⟨nb, 0, none⟩)]) (h2 : Blk w nb 74 #[.pointer m, .int .i64 k]) :
    Calls Try.prog 33 #[.pointer (some ⟨t, 0, none⟩)] w fun e w' => e = .returned (.pointer (some ⟨nb, 0, none⟩)) ∧ w' = w := by
  have c0 : w.cell? ⟨t, 0, none⟩ = some (.pointer (some ⟨nb, 0, none⟩)) := by rw [h1.cell]; rfl
  have hld := ld_call c0
  have hcv := from_ptr h2 rfl
  clear h1 h2
  go_enter Try.func33, Try.ntmps33
  go_wp2
  go_ret
  exact ⟨rfl, rfl⟩
set_option maxHeartbeats 400000 in
theorem load_nil (w : World) :
    Calls Try.prog 33 #[.pointer none] w fun e w' => e = .returned (.pointer none) ∧ w' = w := by
  go_enter Try.func33, Try.ntmps33
  go_wp2
  go_ret
  exact ⟨rfl, rfl⟩

set_option maxHeartbeats 400000 in
theorem pstore_any (a x : Addr) (u v : Value) (w : World) (hc : w.cell? a = some u) (hz : w.frozen? a = false) (hx : w.cell? x = some v) (ha : a.off = 0 ∧ a.spot = none) :
    Calls Try.prog 32 #[.pointer (some a), .pointer (some x)] w fun e w' => e = .returned (.tuple #[]) ∧ w' = w.setCell a (.pointer (some x)) := by
  have hst := st_call (y := some x) hc hz
  have hcv := to_ptr hx
  obtain ⟨b, o, s⟩ := a
  obtain ⟨rfl, rfl⟩ : o = 0 ∧ s = none := ha
  go_enter Try.func32, Try.ntmps32
  go_wp2
  go_end0
  exact ⟨rfl, rfl⟩

set_option maxRecDepth 100000 in
set_option maxHeartbeats 800000 in
theorem newTable_any (m : Option Addr) (w : World) :
    Calls Try.prog 21 #[.pointer m] w fun e w' => ∃ t, e = .returned (.pointer (some ⟨t, 0, none⟩)) ∧ TabAt w' t m 1 ∧ Below w.heap.size w w' ∧ w.heap.size ≤ t := by
  have hb1 := Blk.new w 71 #[.pointer none]
  have hb2 := hb1.alloc (.cells #[.pointer m, .int .i64 1] 74)
  have hb3 := Blk.new (w.alloc (.cells #[.pointer none] 71)) 74 #[.pointer m, .int .i64 1]
  have hz : (w.alloc (.cells #[.pointer none] 71)).heap.size = w.heap.size + 1 := by simp
  rw [hz] at hb3
  have HST := Lib.hid (pstore_any ⟨w.heap.size, 0, none⟩ ⟨w.heap.size + 1, 0, none⟩ (.pointer none) (.pointer m) _ (by rw [hb2.cell]; rfl) (hb2.frozen 0) (by rw [hb3.cell]; rfl) ⟨rfl, rfl⟩)
  have hbd1 := fun W => build_table W
  have hbd2 := fun W => build_numbered m 1 W
  have HB2 := Lib.hid hb2
  have HB3 := Lib.hid hb3
  clear hb1 hb2 hb3 hz
  go_enter Try.func21, Try.ntmps21
  go_wp2_with fail
  refine HST.out.mono ?_
  rintro e w' ⟨rfl, rfl⟩
  go_wp2_with fail
  go_ret
  refine ⟨w.heap.size, rfl, ⟨w.heap.size + 1, HB2.out.set_ 0 _, HB3.out.far (by simp) _⟩, ?_, Nat.le_refl _⟩
  exact (((Below.refl _ _).alloc (Nat.le_refl _) _).alloc (by simp) _).setCell (by simp) _

set_option maxHeartbeats 400000 in
theorem now_any (t : Nat) (m : Option Addr) (k : Int) (w : World) (h : TabAt w t m k) :
    Calls Try.prog 23 #[.pointer (some ⟨t, 0, none⟩)] w fun e w' => e = .returned (.tuple #[.pointer m, .int .i64 k]) ∧ ∃ q, w' = w.drewN q := by
  obtain ⟨nb, h1, h2⟩ := h
  have HL := Lib.hid (load_any t nb m k w h1 h2)
  have c0 : w.cell? ⟨nb, 0, none⟩ = some (.pointer m) := by rw [h2.cell]; rfl
  have c1 : w.cell? ⟨nb, 1, none⟩ = some (.int .i64 k) := by rw [h2.cell]; rfl
  clear h1 h2
  go_enter Try.func23, Try.ntmps23
  go_wp2_with fail
  refine HL.out.mono ?_
  rintro e w' ⟨rfl, rfl⟩
  go_wp2_with fail
  go_quiet (fail)
  go_wp2_with fail
  go_ret2
  exact ⟨rfl, _, rfl⟩

set_option maxHeartbeats 400000 in
theorem change_nil (m : Option Addr) (k : Int) (w : World) :
    Calls Try.prog 22 #[.pointer none, .pointer m, .int .i64 k] w fun e w' => e = .returned (.int .i64 1) ∧ w' = w := by
  have HL := Lib.hid (load_nil w)
  go_enter Try.func22, Try.ntmps22
  go_wp2_with fail
  refine HL.out.mono ?_
  rintro e w' ⟨rfl, rfl⟩
  go_wp2_with fail
  go_ret
  exact ⟨rfl, rfl⟩
set_option maxHeartbeats 400000 in
theorem change_none (t : Nat) (m : Option Addr) (k j : Int) (w : World) (h : TabAt w t m k) :
    Calls Try.prog 22 #[.pointer (some ⟨t, 0, none⟩), .pointer none, .int .i64 j] w fun e w' => e = .returned (.int .i64 1) ∧ w' = w := by
  obtain ⟨nb, h1, h2⟩ := h
  have HL := Lib.hid (load_any t nb m k w h1 h2)
  clear h1 h2
  go_enter Try.func22, Try.ntmps22
  go_wp2_with fail
  refine HL.out.mono ?_
  rintro e w' ⟨rfl, rfl⟩
  go_wp2_with fail
  go_ret
  exact ⟨rfl, rfl⟩
set_option maxRecDepth 100000 in
set_option maxHeartbeats 400000 in
/-- with another number -/
theorem change_miss (t : Nat) (m : Option Addr) (x : Addr) (k j : Int) (w : World) (h : TabAt w t m k) (hk : 0 ≤ k ∧ k ≤ 1000000) (hj : k ≠ j) :
    Calls Try.prog 22 #[.pointer (some ⟨t, 0, none⟩), .pointer (some x), .int .i64 j] w fun e w' => e = .returned (.int .i64 8) ∧ Below w.heap.size w w' := by
  obtain ⟨nb, h1, h2⟩ := h
  have HL := Lib.hid (load_any t nb m k w h1 h2)
  have c1 : w.cell? ⟨nb, 1, none⟩ = some (.int .i64 k) := by rw [h2.cell]; rfl
  have c2 : ∀ o, (w.alloc o).cell? ⟨nb, 1, none⟩ = some (.int .i64 k) := fun o => by rw [(h2.alloc o).cell]; rfl
  have hj1 : (k == j) = false := by simp [hj]
  have hj2 : (k != j) = true := by simp [hj]
  obtain ⟨hk0, hk1⟩ := hk
  have HB := Lib.hid ((Below.refl w.heap.size w).alloc (Nat.le_refl _) (.cells #[.pointer (some x), .int .i64 (k + 1)] 74))
  have hbd2 := fun W => build_numbered (some x) (k + 1) W
  clear h1 h2 hj
  go_enter Try.func22, Try.ntmps22
  go_wp2_with fail
  refine HL.out.mono ?_
  rintro e w' ⟨rfl, rfl⟩
  go_wp2_with fail
  go_ret
  exact ⟨rfl, HB.out⟩
set_option maxRecDepth 100000 in
set_option maxHeartbeats 800000 in
/-- with its own number -/
theorem change_hit (t : Nat) (m : Option Addr) (x : Addr) (k : Int) (w : World) (h : TabAt w t m k) (hk : 0 ≤ k ∧ k ≤ 1000000) :
    Calls Try.prog 22 #[.pointer (some ⟨t, 0, none⟩), .pointer (some x), .int .i64 k] w fun e w' => e = .returned (.int .i64 0) ∧ TabAt w' t (some x) (k + 1) ∧ w.grownBy w' (some t) := by
  obtain ⟨nb, h1, h2⟩ := h
  have HL := Lib.hid (load_any t nb m k w h1 h2)
  have c1 : w.cell? ⟨nb, 1, none⟩ = some (.int .i64 k) := by rw [h2.cell]; rfl
  have c2 : ∀ o, (w.alloc o).cell? ⟨nb, 1, none⟩ = some (.int .i64 k) := fun o => by rw [(h2.alloc o).cell]; rfl
  obtain ⟨hk0, hk1⟩ := hk
  have hb1 := h1.alloc (.cells #[.pointer (some x), .int .i64 (k + 1)] 74)
  have hb2 := h2.alloc (.cells #[.pointer (some x), .int .i64 (k + 1)] 74)
  have hb3 := Blk.new w 74 #[.pointer (some x), .int .i64 (k + 1)]
  have d0 : (w.alloc (.cells #[.pointer (some x), .int .i64 (k + 1)] 74)).cell? ⟨t, 0, none⟩ = some (.pointer (some ⟨nb, 0, none⟩)) := by rw [hb1.cell]; rfl
  have d1 : (w.alloc (.cells #[.pointer (some x), .int .i64 (k + 1)] 74)).cell? ⟨nb, 0, none⟩ = some (.pointer m) := by rw [hb2.cell]; rfl
  have d2 : (w.alloc (.cells #[.pointer (some x), .int .i64 (k + 1)] 74)).cell? ⟨w.heap.size, 0, none⟩ = some (.pointer (some x)) := by rw [hb3.cell]; rfl
  have hcas := cas_call (y := some ⟨w.heap.size, 0, none⟩) d0 (hb1.frozen 0)
  have hv1 := to_ptr d1
  have hv2 := to_ptr d2
  have hbd2 := fun W => build_numbered (some x) (k + 1) W
  have hne := hb3.apart hb1 (by decide)
  have HB1 := Lib.hid hb1
  have HB3 := Lib.hid hb3
  clear h1 h2 hb1 hb2 hb3
  go_enter Try.func22, Try.ntmps22
  go_wp2_with fail
  refine HL.out.mono ?_
  rintro e w' ⟨rfl, rfl⟩
  go_wp2_with (go_in)
  go_ret
  refine ⟨rfl, ⟨w'.heap.size, HB1.out.set_ 0 _, HB3.out.far (by simpa using hne) _⟩, ?_⟩
  exact gb_set (gb_alloc (gb_refl _ _) _) 0 _
end Go.Proofs.Ytgioaapflilhhab
