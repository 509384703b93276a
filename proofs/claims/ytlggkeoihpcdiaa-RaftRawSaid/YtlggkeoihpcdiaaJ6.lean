/- Records in memory: rows of them, and the walks of package wal's Bytes, and of the document's own Right and Bytes (kissinggateref05). -/
import Derived.Lib.AppendStr
import Derived.StillTailTactics
import Derived.Maps.AppendAt
import Derived.Laws.ResultCell
import Derived.Laws.Rows
import Derived.Test.YtlggkeoihpcdiaaJ4
import Derived.Test.YtlggkeoihpcdiaaJ5
namespace Go.Proofs.Ytlggkeoihpcdiaa
open Go.RowKit

/-- a record in memory: its kind; where its bytes are, how many, what room; and what they are -/
structure RecP where
  k : UInt8
  A : Option Addr
  n : Nat
  c : Nat
  l : List UInt8
def RecP.m (r : RecP) : RecM := (r.k, r.l)
/-- its two cells -/
def RecP.cells (r : RecP) : List Value := [cb r.k, .slice r.A r.n r.c]
def rcs (rs : List RecP) : List Value := rs.flatMap RecP.cells
/-- the two cells of one of the document's own -/
def tcells (r : RecM) : List Value := [cb r.1, .string (tok r.2)]
def tcs (rs : List RecM) : List Value := rs.flatMap tcells

theorem rcs_append (a b : List RecP) : rcs (a ++ b) = rcs a ++ rcs b := by simp [rcs]
theorem rcs_length (rs : List RecP) : (rcs rs).length = rs.length * 2 := by
  induction rs with
  | nil => rfl
  | cons r rs ih => simp only [rcs, List.flatMap_cons, List.length_append, List.length_cons] at ih ⊢; rw [ih]; simp [RecP.cells]; omega
theorem tcs_append (a b : List RecM) : tcs (a ++ b) = tcs a ++ tcs b := by simp [tcs]
theorem tcs_length (rs : List RecM) : (tcs rs).length = rs.length * 2 := by
  induction rs with
  | nil => rfl
  | cons r rs ih => simp only [tcs, List.flatMap_cons, List.length_append, List.length_cons] at ih ⊢; rw [ih]; simp [tcells]; omega
theorem rcs_get : ∀ (rs : List RecP) (j : Nat) (hj : j < rs.length), (rcs rs)[j * 2]? = some (cb rs[j].k) ∧ (rcs rs)[j * 2 + 1]? = some (.slice rs[j].A rs[j].n rs[j].c)
  | r :: rs, 0, _ => ⟨rfl, rfl⟩
  | r :: rs, j + 1, hj => by
    have ih := rcs_get rs j (by simpa using hj)
    have e : rcs (r :: rs) = cb r.k :: .slice r.A r.n r.c :: rcs rs := rfl
    rw [e, show (j + 1) * 2 = j * 2 + 1 + 1 from by omega, show j * 2 + 1 + 1 + 1 = (j * 2 + 1) + 1 + 1 from by omega]
    simp only [List.getElem?_cons_succ, List.getElem_cons_succ]
    exact ih
theorem tcs_get : ∀ (rs : List RecM) (j : Nat) (hj : j < rs.length), (tcs rs)[j * 2]? = some (cb rs[j].1) ∧ (tcs rs)[j * 2 + 1]? = some (.string (tok rs[j].2))
  | r :: rs, 0, _ => ⟨rfl, rfl⟩
  | r :: rs, j + 1, hj => by
    have ih := tcs_get rs j (by simpa using hj)
    have e : tcs (r :: rs) = cb r.1 :: .string (tok r.2) :: tcs rs := rfl
    rw [e, show (j + 1) * 2 = j * 2 + 1 + 1 from by omega, show j * 2 + 1 + 1 + 1 = (j * 2 + 1) + 1 + 1 from by omega]
    simp only [List.getElem?_cons_succ, List.getElem_cons_succ]
    exact ih
theorem rcs_one (rs : List RecP) : ∀ u ∈ rcs rs, u.oneCell' = true := by
  intro u hu
  obtain ⟨r, _, hr⟩ := List.mem_flatMap.1 hu
  simp only [RecP.cells, List.mem_cons, List.not_mem_nil, or_false] at hr
  rcases hr with rfl | rfl <;> rfl
theorem tcs_one (rs : List RecM) : ∀ u ∈ tcs rs, u.oneCell' = true := by
  intro u hu
  obtain ⟨r, _, hr⟩ := List.mem_flatMap.1 hu
  simp only [tcells, List.mem_cons, List.not_mem_nil, or_false] at hr
  rcases hr with rfl | rfl <;> rfl

/-- a row of records that can be read: it, and what its records have, lies below B -/
def Recs (w : World) (B : Nat) (A : Option Addr) (rs : List RecP) : Prop := Sees w B A (rs.length * 2) (rcs rs) ∧ ∀ r ∈ rs, Sees w B r.A r.n (cbs r.l)
theorem Recs.below {w w' : World} {B : Nat} {A : Option Addr} {rs : List RecP} (h : Recs w B A rs) (hb : Below B w w') : Recs w' B A rs := ⟨h.1.below hb, fun r hr => (h.2 r hr).below hb⟩
theorem Recs.at_ {w : World} {B : Nat} {A : Option Addr} {rs : List RecP} (h : Recs w B A rs) {j : Nat} (hj : j < rs.length) :
    ∃ b off, A = some ⟨b, off, none⟩ ∧ b < B ∧ w.cell? ⟨b, off + j * 2, none⟩ = some (cb rs[j].k) ∧ w.cell? ⟨b, off + j * 2 + 1, none⟩ = some (.slice rs[j].A rs[j].n rs[j].c) ∧ Sees w B rs[j].A rs[j].n (cbs rs[j].l) := by
  obtain ⟨b, off, hA, hb, hc⟩ := h.1.2 (by omega)
  obtain ⟨g1, g2⟩ := rcs_get rs j hj
  exact ⟨b, off, hA, hb, hc _ _ g1, by rw [show off + j * 2 + 1 = off + (j * 2 + 1) from by omega]; exact hc _ _ g2, h.2 _ (List.getElem_mem hj)⟩
/-- a row of the document's own -/
def Toks (w : World) (B : Nat) (A : Option Addr) (rs : List RecM) : Prop := Sees w B A (rs.length * 2) (tcs rs)
theorem Toks.at_ {w : World} {B : Nat} {A : Option Addr} {rs : List RecM} (h : Toks w B A rs) {j : Nat} (hj : j < rs.length) :
    ∃ b off, A = some ⟨b, off, none⟩ ∧ b < B ∧ w.cell? ⟨b, off + j * 2, none⟩ = some (cb rs[j].1) ∧ w.cell? ⟨b, off + j * 2 + 1, none⟩ = some (.string (tok rs[j].2)) := by
  obtain ⟨b, off, hA, hb, hc⟩ := h.2 (by omega)
  obtain ⟨g1, g2⟩ := tcs_get rs j hj
  exact ⟨b, off, hA, hb, hc _ _ g1, by rw [show off + j * 2 + 1 = off + (j * 2 + 1) from by omega]; exact hc _ _ g2⟩

/-- rows of the call's own, in a world that is as it was below -/
theorem own_on {w w' : World} {base : Nat} {e : TypeId} {size n : Nat} {v : Value} {xs : List Value} (h : w.ownsRow base e size v n xs) (hb : Below w.heap.size w w') : w'.ownsRow base e size v n xs := by
  refine ⟨h.1, ?_⟩
  rcases h.2 with hn | ⟨g, cap, cur, rfl, h1, hg, rest⟩
  · exact .inl hn
  · exact .inr ⟨g, cap, cur, rfl, h1, (hb.block g (Array.getElem?_eq_some_iff.1 hg).1).trans hg, rest⟩
theorem own_form2 {w : World} {base : Nat} {e : TypeId} {size n : Nat} {v : Value} {xs : List Value} (h : w.ownsRow base e size v n xs) : ∃ A c, v = .slice A n c ∧ n ≤ c ∧ c ≤ maxLen := by
  rcases h.2 with ⟨rfl, rfl⟩ | ⟨g, cap, cur, rfl, _, _, h1, h2, _⟩
  · exact ⟨none, 0, rfl, Nat.le_refl _, by simp [maxLen]⟩
  · exact ⟨_, _, rfl, h1, h2⟩
theorem sees_own {w : World} {base : Nat} {e : TypeId} {size n c : Nat} {A : Option Addr} {xs : List Value} (h : w.ownsRow base e size (.slice A n c) n xs) : Sees w w.heap.size A (n * size) xs := by
  refine ⟨h.1, fun hn => ?_⟩
  rcases h.2 with ⟨_, h0⟩ | ⟨g, cap, cur, hv, _, hg, _⟩
  · subst h0
    omega
  · have hA : A = some ⟨g, 0, none⟩ := by injection hv
    subst hA
    refine ⟨g, 0, rfl, (Array.getElem?_eq_some_iff.1 hg).1, fun j u hu => ?_⟩
    have := h.cells (g := g) rfl j u hu
    rw [Addr.add_lit] at this
    exact this
/-- a row of records of the call's own: it, and what its records have, lies from block `base` on -/
def RecsF (w : World) (base : Nat) (A : Option Addr) (c : Nat) (rs : List RecP) : Prop := w.ownsRow base 29 2 (.slice A rs.length c) rs.length (rcs rs) ∧ ∀ r ∈ rs, Free w base 5 r.A r.n r.c (cbs r.l)
theorem RecsF.on {w w' : World} {base : Nat} {A : Option Addr} {c : Nat} {rs : List RecP} (h : RecsF w base A c rs) (hb : Below w.heap.size w w') : RecsF w' base A c rs := ⟨own_on h.1 hb, fun r hr => (h.2 r hr).on hb⟩
theorem RecsF.recs {w : World} {base : Nat} {A : Option Addr} {c : Nat} {rs : List RecP} (h : RecsF w base A c rs) : Recs w w.heap.size A rs := ⟨sees_own h.1, fun r hr => (h.2 r hr).sees⟩
theorem RecsF.grown {w w' : World} {base g : Nat} {A : Option Addr} {c : Nat} {rs : List RecP} (h : RecsF w base A c rs) (hg : w.grownBy w' (some g)) (hlt : g < base) : RecsF w' base A c rs := by
  refine ⟨h.1.kept hg ?_, fun r hr => (h.2 r hr).grown hg (fun a _ hb _ e => ?_)⟩
  · cases hv : Value.ownBlock (.slice A rs.length c) with
    | none => exact .inl rfl
    | some k =>
      refine .inr (fun e => ?_)
      injection e with e
      have := (h.1.lt k hv).1
      omega
  · injection e with e
    omega
theorem RecsF.mono {w : World} {base base' : Nat} {A : Option Addr} {c : Nat} {rs : List RecP} (h : RecsF w base A c rs) (hb : base' ≤ base) : RecsF w base' A c rs := by
  refine ⟨⟨h.1.1, ?_⟩, fun r hr => (h.2 r hr).mono hb⟩
  rcases h.1.2 with hn | ⟨g, cap, cur, hv, h1, rest⟩
  · exact .inl hn
  · exact .inr ⟨g, cap, cur, hv, by omega, rest⟩

/-- what Bytes answers -/
def BytesRet (w : World) (r : List UInt8 × Nat) (e : Ending) (w' : World) : Prop :=
  ∃ A c, e = .returned (.tuple #[.slice A r.1.length c, .int .i64 (r.2 : Int)]) ∧ Free w' w.heap.size 5 A r.1.length c (cbs r.1) ∧ Below w.heap.size w w'
theorem BytesRet.none_ {w w' : World} {e : Ending} {r : List UInt8 × Nat} {k : Nat} (ht : r = ([], k)) (he : e = .returned (.tuple #[.slice none 0 0, .int .i64 (k : Int)])) (hb : Below w.heap.size w w') : BytesRet w r e w' := by
  subst ht
  exact ⟨none, 0, he, Free.nil _ _ _, hb⟩
theorem BytesRet.at {w w' : World} {r : List UInt8 × Nat} {e : Ending} {p : List UInt8} {k m : Nat} (h : BytesRet w r e w') (ht : r = (p, k)) (hm : p.length = m) :
    ∃ A c, e = .returned (.tuple #[.slice A m c, .int .i64 (k : Int)]) ∧ Free w' w.heap.size 5 A m c (cbs p) ∧ Below w.heap.size w w' := by
  subst ht
  subst hm
  exact h
theorem u8_zero (k : UInt8) : ((k.toNat : Int) == 0) = decide (k = 0) := by
  rw [Bool.eq_iff_iff, beq_iff_eq, decide_eq_true_iff, ← UInt8.toNat_inj]
  have : (0 : UInt8).toNat = 0 := rfl
  omega

set_option maxRecDepth 100000 in
set_option maxHeartbeats 400000 in
/-- wal.Bytes -/
theorem wbytes_any (k : UInt8) (A : Option Addr) (n c : Nat) (l : List UInt8) (w : World) (hs : Sees w w.heap.size A n (cbs l)) :
    Calls Try.prog 71 #[.agg #[.int .u8 (k.toNat : Int), .slice A n c]] w (BytesRet w (bytesF (k, l))) := by
  have hlen : l.length = n := by have := hs.1; simpa using this
  have HB := Lib.hid (show bytesF (k, l) = if k = 0 then ([], 1) else if 4096 ≤ n then ([], 4) else (frameOf (k :: l), 0) by unfold bytesF recB; rw [hlen])
  have hcells := Blk.new w 29 #[.int .u8 (k.toNat : Int), .slice A n c]
  have c0 : (w.alloc (.cells #[.int .u8 (k.toNat : Int), .slice A n c] 29)).cell? ⟨w.heap.size, 0, none⟩ = some (.int .u8 (k.toNat : Int)) := by rw [hcells.cell]; rfl
  have c1 : (w.alloc (.cells #[.int .u8 (k.toNat : Int), .slice A n c] 29)).cell? ⟨w.heap.size, 1, none⟩ = some (.slice A n c) := by rw [hcells.cell]; rfl
  have hb1 := (Below.refl w.heap.size w).alloc (Nat.le_refl _) (.cells #[.int .u8 (k.toNat : Int), .slice A n c] 29)
  have hs1 := hs.past (.cells #[.int .u8 (k.toNat : Int), .slice A n c] 29)
  have hz := u8_zero k
  clear hs hcells
  by_cases hk : k = 0
  · have hB := HB.out
    rw [if_pos hk] at hB
    have hz' : (k.toNat : Int) = 0 := by subst hk; rfl
    have HB1 := Lib.hid hB
    clear HB hB hz
    go_enter Try.func71, Try.ntmps71
    go_wp2_with fail
    go_ret2
    exact BytesRet.none_ HB1.out rfl ((Below.refl _ _).alloc (Nat.le_refl _) _)
  · have hB := HB.out
    rw [if_neg hk] at hB
    have hz' : ¬ (k.toNat : Int) = 0 := by rw [decide_eq_false hk, beq_eq_false_iff_ne] at hz; exact hz
    clear HB
    by_cases hn : 4096 ≤ n
    · have hn' : (4096 : Int) ≤ (n : Int) := by omega
      rw [if_pos hn] at hB
      have HB1 := Lib.hid hB
      clear hB hz
      go_enter Try.func71, Try.ntmps71
      go_wp2_with fail
      go_ret2
      exact BytesRet.none_ HB1.out rfl hb1
    · have hn' : ¬ (4096 : Int) ≤ (n : Int) := by omega
      rw [if_neg hn] at hB
      have HB1 := Lib.hid hB
      have HLEN := Lib.hid hlen
      clear hB hz hlen
      go_enter Try.func71, Try.ntmps71
      go_wp2_with fail
      have hz1 : w.heap.size + 1 = (w.alloc (.cells #[.int .u8 (k.toNat : Int), .slice A n c] 29)).heap.size := by simp
      clear c0 c1
      generalize w.alloc (.cells #[.int .u8 (k.toNat : Int), .slice A n c] 29) = w1 at *
      have hk2 : Sees (w1.alloc (.cells #[.int .u8 (k.toNat : Int)] 5)) (w1.alloc (.cells #[.int .u8 (k.toNat : Int)] 5)).heap.size (some ⟨w.heap.size + 1, 0, none⟩) 1 (cbs [k]) := sees_new_at w1 (w.heap.size + 1) #[.int .u8 (k.toNat : Int)] 5 hz1
      have hs2 := hs1.past (.cells #[.int .u8 (k.toNat : Int)] 5)
      have hb2 := hb1.alloc hb1.size (.cells #[.int .u8 (k.toNat : Int)] 5)
      have hz2 : w.heap.size + 1 + 1 = (w1.alloc (.cells #[.int .u8 (k.toNat : Int)] 5)).heap.size := by rw [hz1]; simp
      clear hs1 hb1 hz1
      generalize w1.alloc (.cells #[.int .u8 (k.toNat : Int)] 5) = w2 at *
      have hsS := sees_new_at w2 (w.heap.size + 1 + 1) #[.slice (some ⟨w.heap.size + 1, 0, none⟩) 1 1, .slice A n c] 27 hz2
      have hk3 := hk2.past (.cells #[.slice (some ⟨w.heap.size + 1, 0, none⟩) 1 1, .slice A n c] 27)
      have hs3 := hs2.past (.cells #[.slice (some ⟨w.heap.size + 1, 0, none⟩) 1 1, .slice A n c] 27)
      have hb3 := hb2.alloc hb2.size (.cells #[.slice (some ⟨w.heap.size + 1, 0, none⟩) 1 1, .slice A n c] 27)
      clear hk2 hs2 hb2 hz2
      generalize w2.alloc (.cells #[.slice (some ⟨w.heap.size + 1, 0, none⟩) 1 1, .slice A n c] 27) = w3 at *
      refine (concat_any (some ⟨w.heap.size + 1 + 1, 0, none⟩) 2 2 [⟨some ⟨w.heap.size + 1, 0, none⟩, 1, 1, [k]⟩, ⟨A, n, c, l⟩] w3 hsS ?_ ?_ (by omega)).mono ?_
      · intro p hp
        simp only [List.mem_cons, List.not_mem_nil, or_false] at hp
        rcases hp with rfl | rfl
        · exact hk3
        · exact hs3
      · have h1 := HLEN.out
        simp [cat]
        omega
      rintro e w4 ⟨v, rfl, hown, hb4⟩
      have hcat : cat [⟨some ⟨w.heap.size + 1, 0, none⟩, 1, 1, [k]⟩, ⟨A, n, c, l⟩] = k :: l := by simp [cat]
      rw [hcat] at hown
      have hl4 : (k :: l).length = n + 1 := by simp [HLEN.out]
      rw [hl4] at hown
      obtain ⟨A4, c4, rfl, _, _⟩ := own_form hown
      have hb4' := bthen hb3 hb4
      have hs4 := (Free.of_own hown).sees
      clear hown hcat hk3 hs3 hsS hb3 hb4
      go_wp2_with fail
      refine (put_any none 0 0 [] A4 (n + 1) c4 (k :: l) w4 (Sees.none_ _ _ _) hs4 (by omega) (by omega)).mono ?_
      intro e w5 h
      obtain ⟨A5, c5, rfl, hf5, hb5⟩ := h.at (p := frameOf (k :: l)) (List.nil_append _) rfl
      go_wp2_with fail
      go_ret2
      rw [HB1.out]
      exact ⟨A5, c5, rfl, hf5.mono hb4'.size, bthen hb4' hb5⟩
end Go.Proofs.Ytlggkeoihpcdiaa

/- The walks of wal.Read, of the document's own Right, Bytes and Read (kissinggateref05), and of the statements' comparison of rows. -/
namespace Go.Proofs.Ytlggkeoihpcdiaa
open Go.RowKit

/-- whether a record may be -/
def rightB (r : RecM) : Bool := decide (r.1 ≠ 0) && decide (r.2.length < 4096)
theorem u8_pos (k : UInt8) : decide ((0 : Int) < (k.toNat : Int)) = decide (k ≠ 0) := by
  rw [decide_eq_decide, ne_eq, ← UInt8.toNat_inj]
  have : (0 : UInt8).toNat = 0 := rfl
  omega

set_option maxRecDepth 100000 in
set_option maxHeartbeats 400000 in
/-- kissinggateref05.Right -/
theorem refRight_any (r : RecM) (w : World) :
    Calls Try.prog 22 #[.agg #[.int .u8 (r.1.toNat : Int), .string (tok r.2)]] w fun e w' => e = .returned (.bool (rightB r)) ∧ w' = w.alloc (.cells #[.int .u8 (r.1.toNat : Int), .string (tok r.2)] 46) := by
  obtain ⟨k, l⟩ := r
  have hcells := Blk.new w 46 #[.int .u8 (k.toNat : Int), .string (tok l)]
  have c0 : (w.alloc (.cells #[.int .u8 (k.toNat : Int), .string (tok l)] 46)).cell? ⟨w.heap.size, 0, none⟩ = some (.int .u8 (k.toNat : Int)) := by rw [hcells.cell]; rfl
  have c1 : (w.alloc (.cells #[.int .u8 (k.toNat : Int), .string (tok l)] 46)).cell? ⟨w.heap.size, 1, none⟩ = some (.string (tok l)) := by rw [hcells.cell]; rfl
  have hz := u8_pos k
  have hsz := tok_size l
  clear hcells
  by_cases hk : k = 0
  · have hz' : ¬ (0 : Int) < (k.toNat : Int) := by subst hk; decide
    have hr : rightB (k, l) = false := by subst hk; rfl
    rw [hr]
    clear hz hr hk
    go_enter Try.func22, Try.ntmps22
    go_wp2_with fail
    go_ret
    exact ⟨rfl, rfl⟩
  · have hz' : (0 : Int) < (k.toNat : Int) := by rw [decide_eq_decide] at hz; exact hz.2 hk
    have hr : rightB (k, l) = decide ((l.length : Int) < 4096) := by unfold rightB; simp [hk]; omega
    rw [hr]
    clear hz hr hk
    go_enter Try.func22, Try.ntmps22
    go_wp2_with fail
    go_ret
    exact ⟨rfl, rfl⟩

theorem str_cells (l : List UInt8) : Lib.strCells (tok l) = cbs l := by
  unfold Lib.strCells
  rw [tok_list]
  rfl
theorem str_u : Try.prog.underlying 9 = some .string := Try.underlying9

/-- 'b[1:]' -/
theorem slice_one (A : Option Addr) (n c : Nat) (hk : 1 ≤ n) (W : World) :
    (Instr.slice 27 (.slice A n c) (some (.int .i64 1)) none none).run Try.prog W = .ok (.slice (if c = 1 then A else A.map (·.add 1)) (n - 1) (c - 1)) W := by
  have h := run_slice_l (P := Try.prog) (w := W) 27 A n c (by kernel_rfl) .i64 (1 : Int) (by omega) (by omega)
  have hs : (sizeOf (Try.prog.elem 27)).run Try.prog W = .ok 1 W := by go_simp
  rw [h, hs]
  simp only [Result.andThen, sliced, Nat.mul_one, Int.reduceToNat]
theorem rec_row : (Try.prog.info? 29).map (fun i => (i.zero, i.size, i.bytes)) = some (some (.agg #[.int .u8 0, .slice none 0 0]), 2, 32) := by kernel_rfl
theorem rrec_row : (Try.prog.info? 46).map (fun i => (i.zero, i.size, i.bytes)) = some (some (.agg #[.int .u8 0, .string ⟨#[]⟩]), 2, 24) := by kernel_rfl
theorem srec_u : Try.prog.underlying 22 = some (.slice 29) := Try.underlying22
theorem srrec_u : Try.prog.underlying 35 = some (.slice 46) := Try.underlying35

/-- an element of a row of slices, as one that may be written -/
theorem rows_free {w : World} {base : Nat} {A : Option Addr} {c : Nat} {ps : List Part} (h : Rows w base A c ps) {j : Nat} (hj : j < ps.length) :
    ∃ b off p, A = some ⟨b, off, none⟩ ∧ b < w.heap.size ∧ ps[j]? = some p ∧ w.cell? ⟨b, off + j, none⟩ = some (.slice p.A p.n p.c) ∧ Free w base 5 p.A p.n p.c (cbs p.l) := by
  obtain ⟨b, off, u, hA, _, hb, hu, hc, _⟩ := h.1.at_ hj
  have hm := List.getElem?_eq_getElem hj
  rw [List.getElem?_map, hm] at hu
  simp only [Option.map_some, Option.some.injEq, Part.v] at hu
  subst hu
  exact ⟨b, off, _, hA, hb, hm, hc, h.2 _ (List.getElem_mem hj)⟩

/-- what Read answers -/
def ReadRet (w : World) (r : List RecM × Nat × Nat) (e : Ending) (w' : World) : Prop :=
  ∃ A c rs, e = .returned (.tuple #[.slice A rs.length c, .int .i64 (r.2.1 : Int), .int .i64 (r.2.2 : Int)]) ∧ rs.map RecP.m = r.1 ∧ RecsF w' w.heap.size A c rs ∧ Below w.heap.size w w'
end Go.Proofs.Ytlggkeoihpcdiaa

/- The walks of package hard's play and Play. -/
namespace Go.Proofs.Ytlggkeoihpcdiaa
open Go.RowKit

theorem results_row2 {P : Program} {fn : Func} {p u : Tmp} {ty : TypeId} (h : fn.results = #[.cell p ty, .tmp u]) (tmps : Array Value) (w : World) (g : Nat) (t : TypeId) (cs : Array Value) (d : TypeDesc)
    (hp : tmps.getD p undef = .pointer (some ⟨g, 0, none⟩)) (hg : Blk w g t cs)
    (hu : P.underlying ty = some d) (hd : (match d with | .struct _ | .array _ _ => true | _ => false) = true) (hi : (P.info? ty).map (·.size) = some cs.size) :
    (results fn tmps).run P w = .ok (.tuple #[.agg cs, tmps.getD u undef]) w := by
  rw [results_cell_tmp h, hp]
  simp [asAddr, Result.andThen, run_loadVar_row w g t ty cs (0, 0) d hg hu hd hi]

theorem st_size : (Try.prog.info? 25).map (·.size) = some 3 := by kernel_rfl

set_option maxRecDepth 100000 in
set_option maxHeartbeats 800000 in
/-- hard.play -/
theorem play_any (base g : Nat) (s : StP) (k : UInt8) (A : Option Addr) (n c : Nat) (l : List UInt8) (o : Option StP) (ho : playR s (k, l) = o) (w : World) (h : StW w base g s) (hs : Sees w w.heap.size A n (cbs l)) (hn : n ≤ 1073741824) (hB : base ≤ w.heap.size) (hes : s.es.length ≤ 1099511627776) :
    Calls Try.prog 41 #[.pointer (some ⟨g, 0, none⟩), .agg #[.int .u8 (k.toNat : Int), .slice A n c]] w (PlayRet w base g o.isSome (o.getD play0)) := by
  obtain ⟨t, v, es⟩ := s
  have hA := Blk.new w 29 #[.int .u8 (k.toNat : Int), .slice A n c]
  have hb0 := (Below.refl w.heap.size w).alloc (Nat.le_refl _) (.cells #[.int .u8 (k.toNat : Int), .slice A n c] 29)
  have c0 : (w.alloc (.cells #[.int .u8 (k.toNat : Int), .slice A n c] 29)).cell? ⟨w.heap.size, 0, none⟩ = some (.int .u8 (k.toNat : Int)) := by rw [hA.cell]; rfl
  have c1 : (w.alloc (.cells #[.int .u8 (k.toNat : Int), .slice A n c] 29)).cell? ⟨w.heap.size, 1, none⟩ = some (.slice A n c) := by rw [hA.cell]; rfl
  have H := Lib.hid (h.on hb0)
  have HS := Lib.hid (Sees.on hs hb0)
  have HB := Lib.hid (Nat.le_trans hB hb0.size)
  have HBW := Lib.hid (hb0.mono hB)
  clear hA hb0 h hs hB
  by_cases k1 : k = 1
  · have q1 : ((k.toNat : Int) == 1) = true := by rw [k1]; rfl
    unfold playR at ho
    rw [if_pos k1] at ho
    simp only at ho
    generalize h1 : (⟨l, false⟩ : RS).int 0 1099511627776 = R1 at ho
    obtain ⟨t1, r1⟩ := R1
    simp only at ho
    generalize h2 : r1.int (-1) 6 = R2 at ho
    obtain ⟨v1, r2⟩ := R2
    simp only at ho
    have HP := Lib.hid (fun (gR : Nat) (W : World) (hW : StW W base g ⟨t, v, es⟩) (hr : Rdr W gR ⟨l, false⟩) (hg : base ≤ gR) (hz : base ≤ W.heap.size) => playHard_any base g gR t v es ⟨l, false⟩ r1 r2 t1 v1 h1 h2 W hW hr hg hz)
    have hdone : o = if r2.done = true then some ⟨t1, v1, es⟩ else none := by
      rw [← ho]
      unfold RS.done
      cases r2.bad <;> cases r2.l <;> simp
    have HO := Lib.hid hdone
    clear ho h1 h2 hdone k1
    go_enter Try.func41, Try.ntmps41
    go_wp2_with fail
    generalize w.alloc (.cells #[.int .u8 (k.toNat : Int), .slice A n c] 29) = w0 at *
    refine (read_any A n c l w0 HS.out (by omega)).mono ?_
    rintro e w1 ⟨gR, rfl, hr, hb1, hgR⟩
    have HS1 := Lib.hid (H.out.on hb1)
    have HR1 := Lib.hid hr
    have HB1 := Lib.hid (HBW.out.trans (hb1.mono HB.out))
    have HBZ := Lib.hid (Nat.le_trans HB.out hb1.size)
    have HGR := Lib.hid (Nat.le_trans HB.out hgR)
    clear hr hb1 hgR c0 c1
    go_wp2_with fail
    refine (HP.out gR w1 HS1.out HR1.out HGR.out HBZ.out).mono ?_
    rintro e w2 ⟨rfl, hst, hb2⟩
    have HST := Lib.hid hst
    have HB2 := Lib.hid (HB1.out.trans hb2)
    clear hst hb2
    go_wp2_with fail
    go_ret
    have hoo := HO.out
    cases hd : r2.done with
    | true =>
      rw [hd, if_pos rfl] at hoo
      subst hoo
      exact ⟨rfl, fun _ => HST.out, HB2.out⟩
    | false =>
      rw [hd, if_neg (by simp)] at hoo
      subst hoo
      exact ⟨rfl, fun h => Bool.noConfusion h, HB2.out⟩
  · by_cases k2 : k = 2
    · have q1 : ((k.toNat : Int) == 1) = false := by rw [k2]; rfl
      have q2 : ((k.toNat : Int) == 2) = true := by rw [k2]; rfl
      unfold playR at ho
      rw [if_neg k1, if_pos k2] at ho
      simp only at ho
      generalize h1 : (⟨l, false⟩ : RS).int 1 ((es.length : Int) + 1) = R1 at ho
      obtain ⟨i1, r1⟩ := R1
      simp only at ho
      generalize h2 : r1.int 1 1099511627776 = R2 at ho
      obtain ⟨t1, r2⟩ := R2
      simp only at ho
      generalize h3 : r2.text 512 = R3 at ho
      obtain ⟨d, r3⟩ := R3
      simp only at ho
      have HP := Lib.hid (fun (gR : Nat) (W : World) (hW : StW W base g ⟨t, v, es⟩) (hr : Rdr W gR ⟨l, false⟩) (hg : base ≤ gR) (hz : base ≤ W.heap.size) => playEntry_any base g gR t v es ⟨l, false⟩ r1 r2 r3 i1 t1 d r3.done rfl h1 h2 h3 W hW hr hg hz hes)
      have hdone : o = if r3.done = true then some ⟨t, v, es.take (i1 - 1).toNat ++ [⟨t1, ⟨d.toArray⟩⟩]⟩ else none := by
        rw [← ho]
        unfold RS.done
        cases r3.bad <;> cases r3.l <;> simp
      have HO := Lib.hid hdone
      clear ho h1 h2 h3 hdone k1 k2
      go_enter Try.func41, Try.ntmps41
      go_wp2_with fail
      generalize w.alloc (.cells #[.int .u8 (k.toNat : Int), .slice A n c] 29) = w0 at *
      refine (read_any A n c l w0 HS.out (by omega)).mono ?_
      rintro e w1 ⟨gR, rfl, hr, hb1, hgR⟩
      have HS1 := Lib.hid (H.out.on hb1)
      have HR1 := Lib.hid hr
      have HB1 := Lib.hid (HBW.out.trans (hb1.mono HB.out))
      have HBZ := Lib.hid (Nat.le_trans HB.out hb1.size)
      have HGR := Lib.hid (Nat.le_trans HB.out hgR)
      clear hr hb1 hgR c0 c1
      go_wp2_with fail
      refine (HP.out gR w1 HS1.out HR1.out HGR.out HBZ.out).mono ?_
      rintro e w2 ⟨rfl, hst, hb2⟩
      have HST := Lib.hid hst
      have HB2 := Lib.hid (HB1.out.trans hb2)
      clear hst hb2
      go_wp2_with fail
      go_ret
      have hoo := HO.out
      have hst := HST.out
      cases hd : r3.done with
      | true =>
        rw [hd, if_pos rfl] at hoo
        subst hoo
        exact ⟨rfl, fun _ => hst hd, HB2.out⟩
      | false =>
        rw [hd, if_neg (by simp)] at hoo
        subst hoo
        exact ⟨rfl, fun h => Bool.noConfusion h, HB2.out⟩
    · have q1 : ((k.toNat : Int) == 1) = false := by
        rw [beq_eq_false_iff_ne]
        intro h
        exact k1 (UInt8.toNat_inj.1 (by have : (1 : UInt8).toNat = 1 := rfl; omega))
      have q2 : ((k.toNat : Int) == 2) = false := by
        rw [beq_eq_false_iff_ne]
        intro h
        exact k2 (UInt8.toNat_inj.1 (by have : (2 : UInt8).toNat = 2 := rfl; omega))
      have hoo : o = none := by
        rw [← ho]
        unfold playR
        rw [if_neg k1, if_neg k2]
      subst hoo
      clear ho k1 k2
      go_enter Try.func41, Try.ntmps41
      go_wp2_with fail
      go_ret
      exact ⟨rfl, fun h => Bool.noConfusion h, HBW.out⟩
end Go.Proofs.Ytlggkeoihpcdiaa
