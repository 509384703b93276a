/- The walks of wal.Read, of the document's own Right, Bytes and Read (kissinggateref05), and of the statements' comparison of rows. -/
import Derived.Test.YtjmpokaifnhnmaaRec
import Derived.StillTailTactics
import Derived.Maps.AppendAt
namespace Go.Proofs.Ytjmpokaifnhnmaa
open Go.RowKit

/-- whether a record may be -/
def rightB (r : RecM) : Bool := decide (r.1 ≠ 0) && decide (r.2.length < 4096)
theorem u8_pos (k : UInt8) : decide ((0 : Int) < (k.toNat : Int)) = decide (k ≠ 0) := by
  rw [decide_eq_decide, ne_eq, ← UInt8.toNat_inj]
  have : (0 : UInt8).toNat = 0 := rfl
  omega

set_option maxRecDepth 100000 in
set_option maxHeartbeats 400000 in
/-- kissinggateref05.Right -/
theorem refRight_any (r : RecM) (w : World) :
    Calls Try.prog 11 #[.agg #[.int .u8 (r.1.toNat : Int), .string (tok r.2)]] w fun e w' => e = .returned (.bool (rightB r)) ∧ w' = w.alloc (.cells #[.int .u8 (r.1.toNat : Int), .string (tok r.2)] 37) := by
  obtain ⟨k, l⟩ := r
  have hcells := Blk.new w 37 #[.int .u8 (k.toNat : Int), .string (tok l)]
  have c0 : (w.alloc (.cells #[.int .u8 (k.toNat : Int), .string (tok l)] 37)).cell? ⟨w.heap.size, 0, none⟩ = some (.int .u8 (k.toNat : Int)) := by rw [hcells.cell]; rfl
  have c1 : (w.alloc (.cells #[.int .u8 (k.toNat : Int), .string (tok l)] 37)).cell? ⟨w.heap.size, 1, none⟩ = some (.string (tok l)) := by rw [hcells.cell]; rfl
  have hz := u8_pos k
  have hsz := tok_size l
  clear hcells
  by_cases hk : k = 0
  · have hz' : ¬ (0 : Int) < (k.toNat : Int) := by subst hk; decide
    have hr : rightB (k, l) = false := by subst hk; rfl
    rw [hr]
    clear hz hr hk
    go_enter Try.func11, Try.ntmps11
    go_wp2_with fail
    go_ret
    exact ⟨rfl, rfl⟩
  · have hz' : (0 : Int) < (k.toNat : Int) := by rw [decide_eq_decide] at hz; exact hz.2 hk
    have hr : rightB (k, l) = decide ((l.length : Int) < 4096) := by unfold rightB; simp [hk]; omega
    rw [hr]
    clear hz hr hk
    go_enter Try.func11, Try.ntmps11
    go_wp2_with fail
    go_ret
    exact ⟨rfl, rfl⟩

theorem str_cells (l : List UInt8) : Lib.strCells (tok l) = cbs l := by
  unfold Lib.strCells
  rw [tok_list]
  rfl
theorem str_u : Try.prog.underlying 9 = some .string := Try.underlying9

set_option maxRecDepth 100000 in
set_option maxHeartbeats 800000 in
/-- kissinggateref05.Bytes -/
theorem refRBytes_any (r : RecM) (w : World) (hn : r.2.length ≤ 35184372088832) :
    Calls Try.prog 12 #[.agg #[.int .u8 (r.1.toNat : Int), .string (tok r.2)]] w (Bytes w (recB r)) := by
  obtain ⟨k, l⟩ := r
  simp only at hn
  obtain ⟨i0, hi0, hz0, hz1, hz2⟩ := info_parts u8_row
  have hcells := Blk.new w 37 #[.int .u8 (k.toNat : Int), .string (tok l)]
  have c0 : (w.alloc (.cells #[.int .u8 (k.toNat : Int), .string (tok l)] 37)).cell? ⟨w.heap.size, 0, none⟩ = some (.int .u8 (k.toNat : Int)) := by rw [hcells.cell]; rfl
  have hblk := hcells.alloc (.cells #[.int .u8 (k.toNat : Int)] 5)
  have c1 : ((w.alloc (.cells #[.int .u8 (k.toNat : Int), .string (tok l)] 37)).alloc (.cells #[.int .u8 (k.toNat : Int)] 5)).cell? ⟨w.heap.size, 1, none⟩ = some (.string (tok l)) := by rw [hblk.cell]; rfl
  have hb1 := (Below.refl w.heap.size w).alloc (Nat.le_refl _) (.cells #[.int .u8 (k.toNat : Int), .string (tok l)] 37)
  have hb2 := hb1.alloc hb1.size (.cells #[.int .u8 (k.toNat : Int)] 5)
  have hown : ((w.alloc (.cells #[.int .u8 (k.toNat : Int), .string (tok l)] 37)).alloc (.cells #[.int .u8 (k.toNat : Int)] 5)).ownsRow w.heap.size 5 1 (.slice (some ⟨w.heap.size + 1, 0, none⟩) 1 1) 1 (cbs [k]) := by
    have h := World.ownsRow_lit (base := w.heap.size) (e := 5) (size := 1) (w.alloc (.cells #[.int .u8 (k.toNat : Int), .string (tok l)] 37)) #[.int .u8 (k.toNat : Int)] 1 (by simp) (by decide) rfl
    have e : (w.alloc (.cells #[.int .u8 (k.toNat : Int), .string (tok l)] 37)).heap.size = w.heap.size + 1 := by simp
    rw [e] at h
    exact h
  have hsz := tok_size l
  have hm1 : 1 + (tok l).size ≤ maxLen := by rw [hsz]; unfold maxLen; omega
  have hm2 : 1 + (tok l).size ≤ 140737488355328 := by rw [hsz]; omega
  have hbz := hb2.size
  clear hcells hblk hb1
  go_enter Try.func12, Try.ntmps12
  go_wp2_with (at_builtin; go_loud (
                 refine Lib.wpList_append_own_string _ rfl (.tmp 5) (.tmp 7) _ _ rfl w.heap.size 5 i0 sl_u8 str_u hi0 hz0 hz1 hz2 _ 1 (cbs [k]) rfl hown (tok l) rfl hm1 hm2 hbz ?_
                 intro v3 w3 hown3 hg3 _
                 have hb3 := hb2.grown hg3 hbz (fun q hq => by have e : some (w.heap.size + 1) = some q := hq; injection e with e; omega)
                 rw [str_cells, ← cbs_append, hsz] at hown3
                 obtain ⟨A3, c3, rfl, _, _⟩ := own_form hown3
                 have hs3 := (Free.of_own hown3).sees
                 clear hown3 hg3 hown hb2 hbz hm1 hm2 hsz))
  refine (refPut_any A3 _ c3 ([k] ++ l) _ w3 hs3 (Nat.le_refl _) (by omega)).mono ?_
  rintro e w4 ⟨A4, c4, rfl, hf4, hb4⟩
  go_wp2_with fail
  go_ret
  exact ⟨A4, c4, rfl, hf4.mono hb3.size, bthen hb3 hb4⟩

/-- 'b[1:]' -/
theorem slice_one (A : Option Addr) (n c : Nat) (hk : 1 ≤ n) (W : World) :
    (Instr.slice 22 (.slice A n c) (some (.int .i64 1)) none none).run Try.prog W = .ok (.slice (if c = 1 then A else A.map (·.add 1)) (n - 1) (c - 1)) W := by
  have h := run_slice_l (P := Try.prog) (w := W) 22 A n c (by kernel_rfl) .i64 (1 : Int) (by omega) (by omega)
  have hs : (sizeOf (Try.prog.elem 22)).run Try.prog W = .ok 1 W := by go_simp
  rw [h, hs]
  simp only [Result.andThen, sliced, Nat.mul_one, Int.reduceToNat]
theorem rec_row : (Try.prog.info? 24).map (fun i => (i.zero, i.size, i.bytes)) = some (some (.agg #[.int .u8 0, .slice none 0 0]), 2, 32) := by kernel_rfl
theorem rrec_row : (Try.prog.info? 37).map (fun i => (i.zero, i.size, i.bytes)) = some (some (.agg #[.int .u8 0, .string ⟨#[]⟩]), 2, 24) := by kernel_rfl
theorem srec_u : Try.prog.underlying 26 = some (.slice 24) := Try.underlying26
theorem srrec_u : Try.prog.underlying 30 = some (.slice 37) := Try.underlying30

/-- an element of a row of slices, as one that may be written -/
theorem rows_free {w : World} {base : Nat} {A : Option Addr} {c : Nat} {ps : List Part} (h : Rows w base A c ps) {j : Nat} (hj : j < ps.length) :
    ∃ b off p, A = some ⟨b, off, none⟩ ∧ b < w.heap.size ∧ ps[j]? = some p ∧ w.cell? ⟨b, off + j, none⟩ = some (.slice p.A p.n p.c) ∧ Free w base 5 p.A p.n p.c (cbs p.l) := by
  obtain ⟨b, off, u, hA, _, hb, hu, hc, _⟩ := h.1.at_ hj
  have hm := List.getElem?_eq_getElem hj
  rw [List.getElem?_map, hm] at hu
  simp only [Option.map_some, Option.some.injEq, Part.v] at hu
  subst hu
  exact ⟨b, off, _, hA, hb, hm, hc, h.2 _ (List.getElem_mem hj)⟩

/-- what Read answers -/
def ReadRet (w : World) (r : List RecM × Nat × Nat) (e : Ending) (w' : World) : Prop :=
  ∃ A c rs, e = .returned (.tuple #[.slice A rs.length c, .int .i64 (r.2.1 : Int), .int .i64 (r.2.2 : Int)]) ∧ rs.map RecP.m = r.1 ∧ RecsF w' w.heap.size A c rs ∧ Below w.heap.size w w'
end Go.Proofs.Ytjmpokaifnhnmaa
