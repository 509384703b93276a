/- Records in memory: rows of them, and the walks of package wal's Bytes, and of the document's own Right and Bytes (kissinggateref05). -/
import Derived.Test.YtmhgbpgbnfdokaaF4
import Derived.Test.YtmhgbpgbnfdokaaD2
import Derived.Test.YtmhgbpgbnfdokaaRecM
import Derived.Lib.AppendStr
namespace Go.Proofs.Ytmhgbpgbnfdokaa
open Go.RowKit

/-- a record in memory: its kind; where its bytes are, how many, what room; and what they are -/
structure RecP where
  k : UInt8
  A : Option Addr
  n : Nat
  c : Nat
  l : List UInt8
def RecP.m (r : RecP) : RecM := (r.k, r.l)
/-- its two cells -/
def RecP.cells (r : RecP) : List Value := [cb r.k, .slice r.A r.n r.c]
def rcs (rs : List RecP) : List Value := rs.flatMap RecP.cells
/-- the two cells of one of the document's own -/
def tcells (r : RecM) : List Value := [cb r.1, .string (tok r.2)]
def tcs (rs : List RecM) : List Value := rs.flatMap tcells

theorem rcs_append (a b : List RecP) : rcs (a ++ b) = rcs a ++ rcs b := by simp [rcs]
theorem rcs_length (rs : List RecP) : (rcs rs).length = rs.length * 2 := by
  induction rs with
  | nil => rfl
  | cons r rs ih => simp only [rcs, List.flatMap_cons, List.length_append, List.length_cons] at ih ⊢; rw [ih]; simp [RecP.cells]; omega
theorem tcs_append (a b : List RecM) : tcs (a ++ b) = tcs a ++ tcs b := by simp [tcs]
theorem tcs_length (rs : List RecM) : (tcs rs).length = rs.length * 2 := by
  induction rs with
  | nil => rfl
  | cons r rs ih => simp only [tcs, List.flatMap_cons, List.length_append, List.length_cons] at ih ⊢; rw [ih]; simp [tcells]; omega
theorem rcs_get : ∀ (rs : List RecP) (j : Nat) (hj : j < rs.length), (rcs rs)[j * 2]? = some (cb rs[j].k) ∧ (rcs rs)[j * 2 + 1]? = some (.slice rs[j].A rs[j].n rs[j].c)
  | r :: rs, 0, _ => ⟨rfl, rfl⟩
  | r :: rs, j + 1, hj => by
    have ih := rcs_get rs j (by simpa using hj)
    have e : rcs (r :: rs) = cb r.k :: .slice r.A r.n r.c :: rcs rs := rfl
    rw [e, show (j + 1) * 2 = j * 2 + 1 + 1 from by omega, show j * 2 + 1 + 1 + 1 = (j * 2 + 1) + 1 + 1 from by omega]
    simp only [List.getElem?_cons_succ, List.getElem_cons_succ]
    exact ih
theorem tcs_get : ∀ (rs : List RecM) (j : Nat) (hj : j < rs.length), (tcs rs)[j * 2]? = some (cb rs[j].1) ∧ (tcs rs)[j * 2 + 1]? = some (.string (tok rs[j].2))
  | r :: rs, 0, _ => ⟨rfl, rfl⟩
  | r :: rs, j + 1, hj => by
    have ih := tcs_get rs j (by simpa using hj)
    have e : tcs (r :: rs) = cb r.1 :: .string (tok r.2) :: tcs rs := rfl
    rw [e, show (j + 1) * 2 = j * 2 + 1 + 1 from by omega, show j * 2 + 1 + 1 + 1 = (j * 2 + 1) + 1 + 1 from by omega]
    simp only [List.getElem?_cons_succ, List.getElem_cons_succ]
    exact ih
theorem rcs_one (rs : List RecP) : ∀ u ∈ rcs rs, u.oneCell' = true := by
  intro u hu
  obtain ⟨r, _, hr⟩ := List.mem_flatMap.1 hu
  simp only [RecP.cells, List.mem_cons, List.not_mem_nil, or_false] at hr
  rcases hr with rfl | rfl <;> rfl
theorem tcs_one (rs : List RecM) : ∀ u ∈ tcs rs, u.oneCell' = true := by
  intro u hu
  obtain ⟨r, _, hr⟩ := List.mem_flatMap.1 hu
  simp only [tcells, List.mem_cons, List.not_mem_nil, or_false] at hr
  rcases hr with rfl | rfl <;> rfl

/-- a row of records that can be read: it, and what its records have, lies below B -/
def Recs (w : World) (B : Nat) (A : Option Addr) (rs : List RecP) : Prop := Sees w B A (rs.length * 2) (rcs rs) ∧ ∀ r ∈ rs, Sees w B r.A r.n (cbs r.l)
theorem Recs.below {w w' : World} {B : Nat} {A : Option Addr} {rs : List RecP} (h : Recs w B A rs) (hb : Below B w w') : Recs w' B A rs := ⟨h.1.below hb, fun r hr => (h.2 r hr).below hb⟩
theorem Recs.at_ {w : World} {B : Nat} {A : Option Addr} {rs : List RecP} (h : Recs w B A rs) {j : Nat} (hj : j < rs.length) :
    ∃ b off, A = some ⟨b, off, none⟩ ∧ b < B ∧ w.cell? ⟨b, off + j * 2, none⟩ = some (cb rs[j].k) ∧ w.cell? ⟨b, off + j * 2 + 1, none⟩ = some (.slice rs[j].A rs[j].n rs[j].c) ∧ Sees w B rs[j].A rs[j].n (cbs rs[j].l) := by
  obtain ⟨b, off, hA, hb, hc⟩ := h.1.2 (by omega)
  obtain ⟨g1, g2⟩ := rcs_get rs j hj
  exact ⟨b, off, hA, hb, hc _ _ g1, by rw [show off + j * 2 + 1 = off + (j * 2 + 1) from by omega]; exact hc _ _ g2, h.2 _ (List.getElem_mem hj)⟩
/-- a row of the document's own -/
def Toks (w : World) (B : Nat) (A : Option Addr) (rs : List RecM) : Prop := Sees w B A (rs.length * 2) (tcs rs)
theorem Toks.at_ {w : World} {B : Nat} {A : Option Addr} {rs : List RecM} (h : Toks w B A rs) {j : Nat} (hj : j < rs.length) :
    ∃ b off, A = some ⟨b, off, none⟩ ∧ b < B ∧ w.cell? ⟨b, off + j * 2, none⟩ = some (cb rs[j].1) ∧ w.cell? ⟨b, off + j * 2 + 1, none⟩ = some (.string (tok rs[j].2)) := by
  obtain ⟨b, off, hA, hb, hc⟩ := h.2 (by omega)
  obtain ⟨g1, g2⟩ := tcs_get rs j hj
  exact ⟨b, off, hA, hb, hc _ _ g1, by rw [show off + j * 2 + 1 = off + (j * 2 + 1) from by omega]; exact hc _ _ g2⟩

/-- rows of the call's own, in a world that is as it was below -/
theorem own_on {w w' : World} {base : Nat} {e : TypeId} {size n : Nat} {v : Value} {xs : List Value} (h : w.ownsRow base e size v n xs) (hb : Below w.heap.size w w') : w'.ownsRow base e size v n xs := by
  refine ⟨h.1, ?_⟩
  rcases h.2 with hn | ⟨g, cap, cur, rfl, h1, hg, rest⟩
  · exact .inl hn
  · exact .inr ⟨g, cap, cur, rfl, h1, (hb.block g (Array.getElem?_eq_some_iff.1 hg).1).trans hg, rest⟩
theorem own_form2 {w : World} {base : Nat} {e : TypeId} {size n : Nat} {v : Value} {xs : List Value} (h : w.ownsRow base e size v n xs) : ∃ A c, v = .slice A n c ∧ n ≤ c ∧ c ≤ maxLen := by
  rcases h.2 with ⟨rfl, rfl⟩ | ⟨g, cap, cur, rfl, _, _, h1, h2, _⟩
  · exact ⟨none, 0, rfl, Nat.le_refl _, by simp [maxLen]⟩
  · exact ⟨_, _, rfl, h1, h2⟩
theorem sees_own {w : World} {base : Nat} {e : TypeId} {size n c : Nat} {A : Option Addr} {xs : List Value} (h : w.ownsRow base e size (.slice A n c) n xs) : Sees w w.heap.size A (n * size) xs := by
  refine ⟨h.1, fun hn => ?_⟩
  rcases h.2 with ⟨_, h0⟩ | ⟨g, cap, cur, hv, _, hg, _⟩
  · subst h0
    omega
  · have hA : A = some ⟨g, 0, none⟩ := by injection hv
    subst hA
    refine ⟨g, 0, rfl, (Array.getElem?_eq_some_iff.1 hg).1, fun j u hu => ?_⟩
    have := h.cells (g := g) rfl j u hu
    rw [Addr.add_lit] at this
    exact this
/-- a row of records of the call's own: it, and what its records have, lies from block `base` on -/
def RecsF (w : World) (base : Nat) (A : Option Addr) (c : Nat) (rs : List RecP) : Prop := w.ownsRow base 29 2 (.slice A rs.length c) rs.length (rcs rs) ∧ ∀ r ∈ rs, Free w base 5 r.A r.n r.c (cbs r.l)
theorem RecsF.on {w w' : World} {base : Nat} {A : Option Addr} {c : Nat} {rs : List RecP} (h : RecsF w base A c rs) (hb : Below w.heap.size w w') : RecsF w' base A c rs := ⟨own_on h.1 hb, fun r hr => (h.2 r hr).on hb⟩
theorem RecsF.recs {w : World} {base : Nat} {A : Option Addr} {c : Nat} {rs : List RecP} (h : RecsF w base A c rs) : Recs w w.heap.size A rs := ⟨sees_own h.1, fun r hr => (h.2 r hr).sees⟩
theorem RecsF.grown {w w' : World} {base g : Nat} {A : Option Addr} {c : Nat} {rs : List RecP} (h : RecsF w base A c rs) (hg : w.grownBy w' (some g)) (hlt : g < base) : RecsF w' base A c rs := by
  refine ⟨h.1.kept hg ?_, fun r hr => (h.2 r hr).grown hg (fun a _ hb _ e => ?_)⟩
  · cases hv : Value.ownBlock (.slice A rs.length c) with
    | none => exact .inl rfl
    | some k =>
      refine .inr (fun e => ?_)
      injection e with e
      have := (h.1.lt k hv).1
      omega
  · injection e with e
    omega
theorem RecsF.mono {w : World} {base base' : Nat} {A : Option Addr} {c : Nat} {rs : List RecP} (h : RecsF w base A c rs) (hb : base' ≤ base) : RecsF w base' A c rs := by
  refine ⟨⟨h.1.1, ?_⟩, fun r hr => (h.2 r hr).mono hb⟩
  rcases h.1.2 with hn | ⟨g, cap, cur, hv, h1, rest⟩
  · exact .inl hn
  · exact .inr ⟨g, cap, cur, hv, by omega, rest⟩

/-- what Bytes answers -/
def BytesRet (w : World) (r : List UInt8 × Nat) (e : Ending) (w' : World) : Prop :=
  ∃ A c, e = .returned (.tuple #[.slice A r.1.length c, .int .i64 (r.2 : Int)]) ∧ Free w' w.heap.size 5 A r.1.length c (cbs r.1) ∧ Below w.heap.size w w'
theorem BytesRet.none_ {w w' : World} {e : Ending} {r : List UInt8 × Nat} {k : Nat} (ht : r = ([], k)) (he : e = .returned (.tuple #[.slice none 0 0, .int .i64 (k : Int)])) (hb : Below w.heap.size w w') : BytesRet w r e w' := by
  subst ht
  exact ⟨none, 0, he, Free.nil _ _ _, hb⟩
theorem BytesRet.at {w w' : World} {r : List UInt8 × Nat} {e : Ending} {p : List UInt8} {k m : Nat} (h : BytesRet w r e w') (ht : r = (p, k)) (hm : p.length = m) :
    ∃ A c, e = .returned (.tuple #[.slice A m c, .int .i64 (k : Int)]) ∧ Free w' w.heap.size 5 A m c (cbs p) ∧ Below w.heap.size w w' := by
  subst ht
  subst hm
  exact h
theorem u8_zero (k : UInt8) : ((k.toNat : Int) == 0) = decide (k = 0) := by
  rw [Bool.eq_iff_iff, beq_iff_eq, decide_eq_true_iff, ← UInt8.toNat_inj]
  have : (0 : UInt8).toNat = 0 := rfl
  omega

set_option maxRecDepth 100000 in
set_option maxHeartbeats 400000 in
/-- wal.Bytes -/
theorem wbytes_any (k : UInt8) (A : Option Addr) (n c : Nat) (l : List UInt8) (w : World) (hs : Sees w w.heap.size A n (cbs l)) :
    Calls Try.prog 71 #[.agg #[.int .u8 (k.toNat : Int), .slice A n c]] w (BytesRet w (bytesF (k, l))) := by
  have hlen : l.length = n := by have := hs.1; simpa using this
  have HB := Lib.hid (show bytesF (k, l) = if k = 0 then ([], 1) else if 4096 ≤ n then ([], 4) else (frameOf (k :: l), 0) by unfold bytesF recB; rw [hlen])
  have hcells := Blk.new w 29 #[.int .u8 (k.toNat : Int), .slice A n c]
  have c0 : (w.alloc (.cells #[.int .u8 (k.toNat : Int), .slice A n c] 29)).cell? ⟨w.heap.size, 0, none⟩ = some (.int .u8 (k.toNat : Int)) := by rw [hcells.cell]; rfl
  have c1 : (w.alloc (.cells #[.int .u8 (k.toNat : Int), .slice A n c] 29)).cell? ⟨w.heap.size, 1, none⟩ = some (.slice A n c) := by rw [hcells.cell]; rfl
  have hb1 := (Below.refl w.heap.size w).alloc (Nat.le_refl _) (.cells #[.int .u8 (k.toNat : Int), .slice A n c] 29)
  have hs1 := hs.past (.cells #[.int .u8 (k.toNat : Int), .slice A n c] 29)
  have hz := u8_zero k
  clear hs hcells
  by_cases hk : k = 0
  · have hB := HB.out
    rw [if_pos hk] at hB
    have hz' : (k.toNat : Int) = 0 := by subst hk; rfl
    have HB1 := Lib.hid hB
    clear HB hB hz
    go_enter Try.func71, Try.ntmps71
    go_wp2_with fail
    go_ret2
    exact BytesRet.none_ HB1.out rfl ((Below.refl _ _).alloc (Nat.le_refl _) _)
  · have hB := HB.out
    rw [if_neg hk] at hB
    have hz' : ¬ (k.toNat : Int) = 0 := by rw [decide_eq_false hk, beq_eq_false_iff_ne] at hz; exact hz
    clear HB
    by_cases hn : 4096 ≤ n
    · have hn' : (4096 : Int) ≤ (n : Int) := by omega
      rw [if_pos hn] at hB
      have HB1 := Lib.hid hB
      clear hB hz
      go_enter Try.func71, Try.ntmps71
      go_wp2_with fail
      go_ret2
      exact BytesRet.none_ HB1.out rfl hb1
    · have hn' : ¬ (4096 : Int) ≤ (n : Int) := by omega
      rw [if_neg hn] at hB
      have HB1 := Lib.hid hB
      have HLEN := Lib.hid hlen
      clear hB hz hlen
      go_enter Try.func71, Try.ntmps71
      go_wp2_with fail
      have hz1 : w.heap.size + 1 = (w.alloc (.cells #[.int .u8 (k.toNat : Int), .slice A n c] 29)).heap.size := by simp
      clear c0 c1
      generalize w.alloc (.cells #[.int .u8 (k.toNat : Int), .slice A n c] 29) = w1 at *
      have hk2 : Sees (w1.alloc (.cells #[.int .u8 (k.toNat : Int)] 5)) (w1.alloc (.cells #[.int .u8 (k.toNat : Int)] 5)).heap.size (some ⟨w.heap.size + 1, 0, none⟩) 1 (cbs [k]) := sees_new_at w1 (w.heap.size + 1) #[.int .u8 (k.toNat : Int)] 5 hz1
      have hs2 := hs1.past (.cells #[.int .u8 (k.toNat : Int)] 5)
      have hb2 := hb1.alloc hb1.size (.cells #[.int .u8 (k.toNat : Int)] 5)
      have hz2 : w.heap.size + 1 + 1 = (w1.alloc (.cells #[.int .u8 (k.toNat : Int)] 5)).heap.size := by rw [hz1]; simp
      clear hs1 hb1 hz1
      generalize w1.alloc (.cells #[.int .u8 (k.toNat : Int)] 5) = w2 at *
      have hsS := sees_new_at w2 (w.heap.size + 1 + 1) #[.slice (some ⟨w.heap.size + 1, 0, none⟩) 1 1, .slice A n c] 27 hz2
      have hk3 := hk2.past (.cells #[.slice (some ⟨w.heap.size + 1, 0, none⟩) 1 1, .slice A n c] 27)
      have hs3 := hs2.past (.cells #[.slice (some ⟨w.heap.size + 1, 0, none⟩) 1 1, .slice A n c] 27)
      have hb3 := hb2.alloc hb2.size (.cells #[.slice (some ⟨w.heap.size + 1, 0, none⟩) 1 1, .slice A n c] 27)
      clear hk2 hs2 hb2 hz2
      generalize w2.alloc (.cells #[.slice (some ⟨w.heap.size + 1, 0, none⟩) 1 1, .slice A n c] 27) = w3 at *
      refine (concat_any (some ⟨w.heap.size + 1 + 1, 0, none⟩) 2 2 [⟨some ⟨w.heap.size + 1, 0, none⟩, 1, 1, [k]⟩, ⟨A, n, c, l⟩] w3 hsS ?_ ?_ (by omega)).mono ?_
      · intro p hp
        simp only [List.mem_cons, List.not_mem_nil, or_false] at hp
        rcases hp with rfl | rfl
        · exact hk3
        · exact hs3
      · have h1 := HLEN.out
        simp [cat]
        omega
      rintro e w4 ⟨v, rfl, hown, hb4⟩
      have hcat : cat [⟨some ⟨w.heap.size + 1, 0, none⟩, 1, 1, [k]⟩, ⟨A, n, c, l⟩] = k :: l := by simp [cat]
      rw [hcat] at hown
      have hl4 : (k :: l).length = n + 1 := by simp [HLEN.out]
      rw [hl4] at hown
      obtain ⟨A4, c4, rfl, _, _⟩ := own_form hown
      have hb4' := bthen hb3 hb4
      have hs4 := (Free.of_own hown).sees
      clear hown hcat hk3 hs3 hsS hb3 hb4
      go_wp2_with fail
      refine (put_any none 0 0 [] A4 (n + 1) c4 (k :: l) w4 (Sees.none_ _ _ _) hs4 (by omega) (by omega)).mono ?_
      intro e w5 h
      obtain ⟨A5, c5, rfl, hf5, hb5⟩ := h.at (p := frameOf (k :: l)) (List.nil_append _) rfl
      go_wp2_with fail
      go_ret2
      rw [HB1.out]
      exact ⟨A5, c5, rfl, hf5.mono hb4'.size, bthen hb4' hb5⟩
end Go.Proofs.Ytmhgbpgbnfdokaa
