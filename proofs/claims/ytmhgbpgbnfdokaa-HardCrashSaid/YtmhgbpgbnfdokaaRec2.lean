/- The walks of wal.Read, of the document's own Right, Bytes and Read (kissinggateref05), and of the statements' comparison of rows. -/
import Derived.Test.YtmhgbpgbnfdokaaRec
import Derived.StillTailTactics
import Derived.Maps.AppendAt
namespace Go.Proofs.Ytmhgbpgbnfdokaa
open Go.RowKit

/-- whether a record may be -/
def rightB (r : RecM) : Bool := decide (r.1 ≠ 0) && decide (r.2.length < 4096)
theorem u8_pos (k : UInt8) : decide ((0 : Int) < (k.toNat : Int)) = decide (k ≠ 0) := by
  rw [decide_eq_decide, ne_eq, ← UInt8.toNat_inj]
  have : (0 : UInt8).toNat = 0 := rfl
  omega

set_option maxRecDepth 100000 in
set_option maxHeartbeats 400000 in
/-- kissinggateref05.Right -/
theorem refRight_any (r : RecM) (w : World) :
    Calls Try.prog 22 #[.agg #[.int .u8 (r.1.toNat : Int), .string (tok r.2)]] w fun e w' => e = .returned (.bool (rightB r)) ∧ w' = w.alloc (.cells #[.int .u8 (r.1.toNat : Int), .string (tok r.2)] 46) := by
  obtain ⟨k, l⟩ := r
  have hcells := Blk.new w 46 #[.int .u8 (k.toNat : Int), .string (tok l)]
  have c0 : (w.alloc (.cells #[.int .u8 (k.toNat : Int), .string (tok l)] 46)).cell? ⟨w.heap.size, 0, none⟩ = some (.int .u8 (k.toNat : Int)) := by rw [hcells.cell]; rfl
  have c1 : (w.alloc (.cells #[.int .u8 (k.toNat : Int), .string (tok l)] 46)).cell? ⟨w.heap.size, 1, none⟩ = some (.string (tok l)) := by rw [hcells.cell]; rfl
  have hz := u8_pos k
  have hsz := tok_size l
  clear hcells
  by_cases hk : k = 0
  · have hz' : ¬ (0 : Int) < (k.toNat : Int) := by subst hk; decide
    have hr : rightB (k, l) = false := by subst hk; rfl
    rw [hr]
    clear hz hr hk
    go_enter Try.func22, Try.ntmps22
    go_wp2_with fail
    go_ret
    exact ⟨rfl, rfl⟩
  · have hz' : (0 : Int) < (k.toNat : Int) := by rw [decide_eq_decide] at hz; exact hz.2 hk
    have hr : rightB (k, l) = decide ((l.length : Int) < 4096) := by unfold rightB; simp [hk]; omega
    rw [hr]
    clear hz hr hk
    go_enter Try.func22, Try.ntmps22
    go_wp2_with fail
    go_ret
    exact ⟨rfl, rfl⟩

theorem str_cells (l : List UInt8) : Lib.strCells (tok l) = cbs l := by
  unfold Lib.strCells
  rw [tok_list]
  rfl
theorem str_u : Try.prog.underlying 9 = some .string := Try.underlying9

/-- 'b[1:]' -/
theorem slice_one (A : Option Addr) (n c : Nat) (hk : 1 ≤ n) (W : World) :
    (Instr.slice 27 (.slice A n c) (some (.int .i64 1)) none none).run Try.prog W = .ok (.slice (if c = 1 then A else A.map (·.add 1)) (n - 1) (c - 1)) W := by
  have h := run_slice_l (P := Try.prog) (w := W) 27 A n c (by kernel_rfl) .i64 (1 : Int) (by omega) (by omega)
  have hs : (sizeOf (Try.prog.elem 27)).run Try.prog W = .ok 1 W := by go_simp
  rw [h, hs]
  simp only [Result.andThen, sliced, Nat.mul_one, Int.reduceToNat]
theorem rec_row : (Try.prog.info? 29).map (fun i => (i.zero, i.size, i.bytes)) = some (some (.agg #[.int .u8 0, .slice none 0 0]), 2, 32) := by kernel_rfl
theorem rrec_row : (Try.prog.info? 46).map (fun i => (i.zero, i.size, i.bytes)) = some (some (.agg #[.int .u8 0, .string ⟨#[]⟩]), 2, 24) := by kernel_rfl
theorem srec_u : Try.prog.underlying 22 = some (.slice 29) := Try.underlying22
theorem srrec_u : Try.prog.underlying 35 = some (.slice 46) := Try.underlying35

/-- an element of a row of slices, as one that may be written -/
theorem rows_free {w : World} {base : Nat} {A : Option Addr} {c : Nat} {ps : List Part} (h : Rows w base A c ps) {j : Nat} (hj : j < ps.length) :
    ∃ b off p, A = some ⟨b, off, none⟩ ∧ b < w.heap.size ∧ ps[j]? = some p ∧ w.cell? ⟨b, off + j, none⟩ = some (.slice p.A p.n p.c) ∧ Free w base 5 p.A p.n p.c (cbs p.l) := by
  obtain ⟨b, off, u, hA, _, hb, hu, hc, _⟩ := h.1.at_ hj
  have hm := List.getElem?_eq_getElem hj
  rw [List.getElem?_map, hm] at hu
  simp only [Option.map_some, Option.some.injEq, Part.v] at hu
  subst hu
  exact ⟨b, off, _, hA, hb, hm, hc, h.2 _ (List.getElem_mem hj)⟩

/-- what Read answers -/
def ReadRet (w : World) (r : List RecM × Nat × Nat) (e : Ending) (w' : World) : Prop :=
  ∃ A c rs, e = .returned (.tuple #[.slice A rs.length c, .int .i64 (r.2.1 : Int), .int .i64 (r.2.2 : Int)]) ∧ rs.map RecP.m = r.1 ∧ RecsF w' w.heap.size A c rs ∧ Below w.heap.size w w'
end Go.Proofs.Ytmhgbpgbnfdokaa
