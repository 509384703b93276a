/- The walk of package raft's lead. -/
import Derived.BigRegion
import Derived.Test.YtlggkeoihpcdiaaJ8
namespace Go.Proofs.Ytlggkeoihpcdiaa
open Go.RowKit

section
variable {w w' : World} {base g : Nat} {x : NodeM} {L : NodeL} {S : Nat → Prop} {q k : Nat} {ps : List PeerM}
/-- the node has got a new row of peers -/
theorem NodeR.peered (h : NodeR w base g x L) (hb : Below w.heap.size w w') (hq : base ≤ q) (hblk : Blk w' q 152 (pcs ps).toArray) (hk : ps.length = k) (hkc : k ≤ maxLen) :
    NodeR (w'.setCell ⟨g, 13, none⟩ (.slice (some ⟨q, 0, none⟩) k k)) base g { x with peers := ps } { L with Ap := some ⟨q, 0, none⟩, cp := k } := by
  have h' := h.on hb
  subst hk
  refine ⟨?_, h'.base_le, ?_, ?_, ?_, h'.msgs, fun y hy => ⟨(h'.rows y hy).1, ?_, (h'.rows y hy).2.2⟩⟩
  · have e : (ncells x L).setIfInBounds 13 (.slice (some ⟨q, 0, none⟩) ps.length ps.length) = ncells { x with peers := ps } { L with Ap := some ⟨q, 0, none⟩, cp := ps.length } := by
      simp [ncells]
    rw [← e]
    exact h'.blk.set_ 13 _
  · exact h'.log.far (p := ⟨g, 13, none⟩) (Ne.symm h'.far_log) h'.far_fl _
  · refine FreeN.far (p := ⟨g, 13, none⟩) ⟨pcs_length ps, Nat.le_refl _, hkc, fun _ => ⟨q, 0, _, rfl, hq, hblk, ?_, fun j hj => ?_⟩⟩ (fun k hk => ?_) _
    · simp only [List.size_toArray]
      rw [pcs_length]
      omega
    · simp
    · have e : k = q := by
        unfold foot at hk
        split at hk
        · simp at hk
          exact hk.symm
        · cases hk
      subst e
      exact hblk.apart h'.blk (by decide)
  · exact h'.out.far (p := ⟨g, 13, none⟩) h'.far_o _
  · refine (h'.rows y hy).2.1.far (p := ⟨g, 13, none⟩) (fun k hk => ?_) _
    obtain ⟨_, cur, hB⟩ := (h'.rows y hy).2.1.foot_at k hk
    exact hB.apart h'.blk (by decide)
theorem NMoves.peered (h : NodeR w base g x L) (hS : ∀ i, S i ↔ L.has g i) (hb : Below w.heap.size w w') (hB : base ≤ w.heap.size) (hq : w.heap.size ≤ q) (hblk : Blk w' q 152 (pcs ps).toArray) (hk : ps.length = k) (hkc : k ≤ maxLen) :
    NMoves w base g S { x with peers := ps } (w'.setCell ⟨g, 13, none⟩ (.slice (some ⟨q, 0, none⟩) k k)) := by
  have hn := h.peered hb (Nat.le_trans hB hq) hblk hk hkc
  refine ⟨_, ⟨_, hn, fun k => Iff.rfl⟩, (Turn.of_below hb).set_ ⟨(hS g).2 (.inl rfl), _, h.blk⟩ 13 _, fun i hi => ?_⟩
  have hlt := hn.has_lt hi
  rcases hi with hi | hi | hi | hi | hi
  · exact .inl ((hS i).2 (.inl hi))
  · exact .inl ((hS i).2 (.inr (.inl hi)))
  · exact .inl ((hS i).2 (.inr (.inr (.inl hi))))
  · refine .inr ⟨?_, hlt⟩
    have e : i = q := by
      simp only [foot] at hi
      split at hi
      · simp at hi
        exact hi.symm
      · cases hi
    subst e
    exact hq
  · exact .inl ((hS i).2 (.inr (.inr (.inr (.inr hi)))))
end

theorem unsavedF_more (x : NodeM) (i : Int) : (unsavedF x i).out = x.out ∧ (unsavedF x i).term = x.term := by
  unfold unsavedF
  split <;> exact ⟨rfl, rfl⟩
theorem commitF_same (x : NodeM) : (commitF x).1.id = x.id ∧ (commitF x).1.n = x.n ∧ (commitF x).1.peers = x.peers ∧ (commitF x).1.log = x.log ∧ (commitF x).1.out = x.out ∧ (commitF x).1.term = x.term := by
  unfold commitF
  split <;> exact ⟨rfl, rfl, rfl, rfl, rfl, rfl⟩
/-- what add leaves as it was -/
structure Added (x y : NodeM) : Prop where
  id : y.id = x.id
  n : y.n = x.n
  peers : y.peers = x.peers
  out : y.out = x.out
  term : y.term = x.term
  log : y.log.length ≤ x.log.length + 1
theorem addN_same (x : NodeM) (s : ByteArray) : Added x (addN x s).1 := by
  have hl := addF_len x.log ⟨x.term, s⟩
  unfold addN
  split
  · exact ⟨rfl, rfl, rfl, rfl, rfl, hl⟩
  · obtain ⟨a1, a2, a3, a4, a5, a6⟩ := commitF_same (unsavedF { x with log := (addF x.log ⟨x.term, s⟩).1 } (addF x.log ⟨x.term, s⟩).1.length)
    obtain ⟨b1, b2, b3, b4⟩ := unsavedF_same { x with log := (addF x.log ⟨x.term, s⟩).1 } (addF x.log ⟨x.term, s⟩).1.length
    obtain ⟨d1, d2⟩ := unsavedF_more { x with log := (addF x.log ⟨x.term, s⟩).1 } (addF x.log ⟨x.term, s⟩).1.length
    exact ⟨a1.trans b1, a2.trans b2, a3.trans b3, a5.trans d1, a6.trans d2, by rw [a4, b4]; exact hl⟩
/-- two calls' moves, one behind the other -/
theorem NMoves.and {w w1 w2 : World} {S S1 : Nat → Prop} (ht : Turn S w w1) (hs : ∀ i, S1 i → S i ∨ (w.heap.size ≤ i ∧ i < w1.heap.size)) {S2 : Nat → Prop} (ht2 : Turn S1 w1 w2) (hs2 : ∀ i, S2 i → S1 i ∨ (w1.heap.size ≤ i ∧ i < w2.heap.size)) :
    Turn S w w2 ∧ ∀ i, S2 i → S i ∨ (w.heap.size ≤ i ∧ i < w2.heap.size) :=
  ⟨ht.trans ht2 hs, fun i hi => by
    rcases hs2 i hi with h1 | h1
    · rcases hs i h1 with h2 | h2
      · exact .inl h2
      · exact .inr ⟨h2.1, Nat.lt_of_lt_of_le h2.2 ht2.size⟩
    · exact .inr ⟨Nat.le_trans ht.size h1.1, h1.2⟩⟩

def leadF (x : NodeM) : NodeM :=
  let a := addN { x with role := 3, leader := x.id, since := 0, heard := 2 ^ x.id.toNat, peers := List.replicate x.n.toNat ⟨0, x.log.length + 1⟩ } ⟨#[]⟩
  if a.2 ≠ 0 then followF a.1 a.1.term (-1) else sendAllF a.1

set_option maxRecDepth 100000 in
set_option maxHeartbeats 1600000 in
/-- (*raft.Node).lead -/
theorem lead_any (base g : Nat) (x : NodeM) (S : Nat → Prop) (w : World) (h : NodeAt w base g x S) (hn0 : 0 < x.n) (hn7 : x.n ≤ 7) (hid0 : 0 ≤ x.id) (hid : x.id < x.n) (hl : x.log.length ≤ 1048000) (hB : base ≤ w.heap.size) (ho : x.out.length ≤ 1000000) :
    Calls Try.prog 105 #[.pointer (some ⟨g, 0, none⟩)] w fun e w' => e = .returned (.tuple #[]) ∧ NMoves w base g S (leadF x) w' := by
  obtain ⟨L, hL, hS⟩ := h.cell
  have hG := h.own
  obtain ⟨⟨c0, c1, c2, c3⟩, ⟨c4, c5, c6, c7⟩, ⟨c8, c9, c10, c11⟩, ⟨c12, c13, c14, c15, c16⟩⟩ := hL.cells
  have f8 := hL.blk.frozen 8
  have f9 := hL.blk.frozen 9
  have f10 := hL.blk.frozen 10
  have f12 := hL.blk.frozen 12
  have HL := Lib.hid hL
  have HS := Lib.hid hS
  have HG := Lib.hid hG
  have HB := Lib.hid hB
  have HX := Lib.hid (And.intro hn0 (And.intro hn7 (And.intro hid0 (And.intro hid (And.intro hl ho)))))
  clear hL hS hG hB h hn0 hn7 hl ho
  obtain ⟨d, hd⟩ : ∃ d : Nat, x.id = (d : Int) := ⟨x.id.toNat, by omega⟩
  rw [hd] at c0
  have HD := Lib.hid hd
  clear hd hid0 hid
  go_enter Try.func105, Try.ntmps105
  go_upto_region 1 with (fail)
  go_cut [] (fun wx => NMoves w base g S { x with role := 3, leader := (d : Int), since := 0, heard := 2 ^ d } wx)
  case first =>
    go_region_with (fail)
    all_goals
      go_wp2_with fail
      go_meet
      have hd7 : d < 7 := by have h1 := HX.out; have h2 := HD.out; omega
      have hsh : IntKind.u64.wrap ((2 : Int) ^ (min d 64)) = ((2 ^ d : Nat) : Int) := by
        have h : d = 0 ∨ d = 1 ∨ d = 2 ∨ d = 3 ∨ d = 4 ∨ d = 5 ∨ d = 6 := by omega
        rcases h with rfl | rfl | rfl | rfl | rfl | rfl | rfl <;> rfl
      rw [hsh]
      have h8 := HL.out.set 8 (.int .i64 3) (x' := { x with role := 3 }) rfl rfl rfl rfl
      have h9 := h8.set 9 (.int .i64 (d : Int)) (x' := { x with role := 3, leader := (d : Int) }) rfl rfl rfl rfl
      have h10 := h9.set 10 (.int .i64 0) (x' := { x with role := 3, leader := (d : Int), since := 0 }) rfl rfl rfl rfl
      have h12 := h10.set 12 (.int .u64 ((2 ^ d : Nat) : Int)) (x' := { x with role := 3, leader := (d : Int), since := 0, heard := 2 ^ d }) rfl rfl rfl rfl
      have ht := ((((Turn.refl S w).set_ HG.out 8 (.int .i64 3)).set_ HG.out 9 (.int .i64 (d : Int))).set_ HG.out 10 (.int .i64 0)).set_ HG.out 12 (.int .u64 ((2 ^ d : Nat) : Int))
      exact NMoves.of HS.out (h12.on (Below.refl _ _).drew) (ht.on (Below.refl _ _).drew)
  case rest =>
    have HLE := Lib.hid (show leadF x = (let a := addN { { x with role := 3, leader := (d : Int), since := 0, heard := 2 ^ d } with peers := List.replicate x.n.toNat ⟨0, x.log.length + 1⟩ } ⟨#[]⟩
      if a.2 ≠ 0 then followF a.1 a.1.term (-1) else sendAllF a.1) by unfold leadF; rw [HD.out]; rfl)
    obtain ⟨y, hy⟩ : ∃ y : NodeM, y = { x with role := 3, leader := (d : Int), since := 0, heard := 2 ^ d } := ⟨_, rfl⟩
    rw [← hy] at hcut
    rw [← hy] at HLE
    have hyn : y.n = x.n := by rw [hy]
    have hyl : y.log = x.log := by rw [hy]
    have hyi : y.id = x.id := by rw [hy]
    have hyo : y.out = x.out := by rw [hy]
    rw [← hyn, ← hyl, ← hyi, ← hyo] at HX
    rw [← hyn, ← hyl] at HLE
    clear hy hyn hyl hyi hyo f8 f9 f10 f12 HL HD HG
    obtain ⟨S1, hna, htu, hsu⟩ := hcut
    obtain ⟨L1, hL1, hS1⟩ := hna.cell
    obtain ⟨n, hn⟩ : ∃ n : Nat, y.n = n := ⟨y.n.toNat, by have := HX.out; omega⟩
    obtain ⟨ln, hln⟩ : ∃ ln : Nat, y.log.length = ln := ⟨_, rfl⟩
    have HLAST := Lib.hid (fun W (hW : Below wc.heap.size wc W) => hln ▸ nLast_any base g y S1 W (hna.on hW) HX.out.1 (by have := HX.out; omega))
    rw [hn] at HX HLE
    rw [Int.toNat_natCast] at HLE
    rw [hln] at HX HLE
    obtain ⟨⟨_, c1, _, _⟩, _, _, ⟨_, c13, _, _, _⟩⟩ := hL1.cells
    rw [hn] at c1
    have f13 := hL1.blk.frozen 13
    have hw1 : IntKind.i64.wrap ((ln : Int) + 1) = (ln : Int) + 1 := wr_i64 (by omega) (by have := HX.out; omega)
    have HLN := Lib.hid hln
    have HN := Lib.hid hn
    have HL1 := Lib.hid hL1
    have HS1 := Lib.hid hS1
    have HNA := Lib.hid hna
    have HTU := Lib.hid htu
    have HSU := Lib.hid hsu
    have HBC := Lib.hid (Nat.le_trans HB.out htu.size)
    clear hln hn hL1 hS1 hna htu hsu
    go_upto_region 2 with (fail)
    go_cut [] (fun wx => NMoves wc base g S1 { y with peers := List.replicate n ⟨0, (ln : Int) + 1⟩ } wx)
    case first =>
      have hba := fun o => (Below.refl wc.heap.size wc).alloc (Nat.le_refl _) o
      have cA : ∀ o, (wc.alloc o).cell? ⟨g, 1, none⟩ = some (.int .i64 (n : Int)) := fun o => HN.out ▸ ((HL1.out.on (hba o)).cells).1.2.1
      have HBA := Lib.hid hba
      clear hba
      have HRE := Lib.hid (fun (W : World) (hW : Blk W wc.heap.size 152 #[.int .i64 0, .int .i64 ((ln : Int) + 1)]) => repeat_any wc.heap.size 1 n ⟨0, (ln : Int) + 1⟩ W (by rw [hW.cell]; rfl) (by rw [hW.cell]; rfl) (by have := HX.out; omega) (by have := HX.out; omega))
      go_region_with (first
        | (refine (HLAST.out _ (by first | exact Below.refl _ _ | exact (Below.refl _ _).drew)).mono ?_; rintro e w3 ⟨rfl, rfl⟩; simp only)
        | (refine (HRE.out _ (by first | exact Blk.new _ _ _ | exact (Blk.new _ _ _).drew)).mono ?_
           rintro e w3 ⟨q, rfl, hq, hblk, hbel⟩
           have hbw := Below.trans (by first | exact HBA.out _ | exact (HBA.out _).drew) (hbel.mono (by first | exact (HBA.out _).size | exact (HBA.out _).drew.size))
           have hl3 := HL1.out.on hbw
           have c13 : w3.cell? ⟨g, 13, none⟩ = some (.slice L1.Ap y.peers.length L1.cp) := hl3.cells.2.2.2.2.1
           have f13 := hl3.blk.frozen 13
           have HQ := Lib.hid (Nat.le_trans (by first | exact (HBA.out _).size | exact (HBA.out _).drew.size) hq)
           have HK := Lib.hid hblk
           have HW := Lib.hid hbw
           clear hl3 hbw hq hblk hbel))
      all_goals
        go_wp2_with fail
        go_meet
        exact NMoves.peered HL1.out HS1.out HW.out HBC.out HQ.out HK.out (by simp) (Nat.le_trans (show n ≤ 7 by have := HX.out; omega) (by decide))
    case rest =>
      obtain ⟨S2, hna2, htu2, hsu2⟩ := hcut
      obtain ⟨ht2, hs2⟩ := NMoves.and HTU.out HSU.out htu2 hsu2
      obtain ⟨z, hz⟩ : ∃ z : NodeM, z = { y with peers := List.replicate n ⟨0, (ln : Int) + 1⟩ } := ⟨_, rfl⟩
      rw [← hz] at hna2 HLE
      have hzn : z.n = (n : Int) := by rw [hz]; exact HN.out
      have hzi : z.id = y.id := by rw [hz]
      have hzl : z.log.length = ln := by rw [hz]; exact HLN.out
      have hzo : z.out = y.out := by rw [hz]
      have hzp : z.peers = List.replicate n ⟨0, (ln : Int) + 1⟩ := by rw [hz]
      have HAD := Lib.hid (add_any base g z ⟨#[]⟩ S2 _ hna2 (by have := HX.out; omega) (by have := HX.out; omega) (by have := HX.out; omega) (by have := HX.out; omega) (by rw [hzp, hzn]; simp) (by have := HX.out; omega) (Nat.le_trans HB.out ht2.size))
      have has := addN_same z ⟨#[]⟩
      obtain ⟨a, ha⟩ : ∃ a, a = addN z ⟨#[]⟩ := ⟨_, rfl⟩
      rw [← ha] at has HAD HLE
      obtain ⟨a, r⟩ := a
      simp only at has HAD HLE
      have HAS := Lib.hid (show a.n = (n : Int) ∧ a.log.length ≤ ln + 1 ∧ a.out = y.out ∧ a.peers = List.replicate n ⟨0, (ln : Int) + 1⟩ from ⟨has.n.trans hzn, by rw [← hzl]; exact has.log, has.out.trans hzo, has.peers.trans hzp⟩)
      have HT2 := Lib.hid ht2
      have HS2 := Lib.hid hs2
      clear hz hzn hzi hzl hzo hzp ha has ht2 hs2 hna2 htu2 hsu2 c1 c13 f13 hw1 HLAST HNA HL1 HS1
      go_wp2_with fail
      refine HAD.out.mono ?_
      rintro e w3 ⟨rfl, S3, hna3, htu3, hsu3⟩
      obtain ⟨ht3, hs3⟩ := NMoves.and HT2.out HS2.out htu3 hsu3
      have HT3 := Lib.hid ht3
      have HS3 := Lib.hid hs3
      have HNA3 := Lib.hid hna3
      have HB3 := Lib.hid (Nat.le_trans HB.out ht3.size)
      clear ht3 hs3 htu3 hsu3 HAD
      by_cases hf : r = 0
      · subst hf
        have hle := HLE.out
        rw [if_neg (by simp)] at hle
        have HLF := Lib.hid hle
        have HSA := Lib.hid (sendAll_any base g a S3 w3 hna3 (by have := HAS.out.1; have := HX.out; omega) (by have := HAS.out.1; have := HX.out; omega) (by have := HAS.out.2.1; have := HX.out; omega) HB3.out (by rw [HAS.out.2.2.1]; exact HX.out.2.2.2.2.2) (by rw [HAS.out.1, HAS.out.2.2.2]; simp) (fun p hp => by
          rw [HAS.out.2.2.2] at hp
          rw [List.eq_of_mem_replicate hp]
          have := HX.out
          simp only
          omega))
        clear hle HLE hna3
        go_wp2_with fail
        refine HSA.out.mono ?_
        rintro e w4 ⟨rfl, hm⟩
        have HM := Lib.hid (NMoves.trans HT3.out HS3.out hm)
        clear hm
        go_wp2_with fail
        go_end0
        rw [HLF.out]
        exact ⟨rfl, HM.out⟩
      · have hle := HLE.out
        rw [if_pos hf] at hle
        have HLF := Lib.hid hle
        have hf1 : ¬ (r : Int) = 0 := by omega
        have hf2 : ((r : Int) != 0) = true := bne_iff_ne.2 hf1
        have HFO := Lib.hid (follow_any base g a a.term (-1) S3 w3 hna3)
        obtain ⟨L3, hL3, _⟩ := hna3.cell
        obtain ⟨_, ⟨c4, _, _, _⟩, _⟩ := hL3.cells
        clear hle HLE hf hL3 hna3
        go_wp2_with fail
        refine HFO.out.mono ?_
        rintro e w4 ⟨rfl, hm⟩
        have HM := Lib.hid (NMoves.trans HT3.out HS3.out hm)
        clear hm
        go_wp2_with fail
        refine bodyPost_ret (results_none rfl _ _ _) rfl ?_
        rw [HLF.out]
        exact ⟨rfl, HM.out⟩
end Go.Proofs.Ytlggkeoihpcdiaa

/- The walks of package raft's hearYes, stand and ask. -/
namespace Go.Proofs.Ytlggkeoihpcdiaa
open Go.RowKit

def heardF (x : NodeM) (f : Nat) : NodeM := { x with yes := x.yes ||| 2 ^ f }
/-- what hearYes leaves of a candidate -/
def hear2F (x : NodeM) (f : Nat) : NodeM := if mostF x (x.yes ||| 2 ^ f) then leadF (heardF x f) else heardF x f

theorem hear_bits (v f : Nat) (hv : v < 128) (hf : f < 7) : bits BinOp.or IntKind.u64 (v : Int) (IntKind.u64.wrap ((2 : Int) ^ (min f 64))) = ((v ||| 2 ^ f : Nat) : Int) ∧ v ||| 2 ^ f < 128 := by
  have hp : (2 : Nat) ^ f < 128 := Nat.pow_lt_pow_right (by omega) (show f < 7 from hf)
  have hsh : IntKind.u64.wrap ((2 : Int) ^ (min f 64)) = ((2 ^ f : Nat) : Int) := by
    have h : f = 0 ∨ f = 1 ∨ f = 2 ∨ f = 3 ∨ f = 4 ∨ f = 5 ∨ f = 6 := by omega
    rcases h with rfl | rfl | rfl | rfl | rfl | rfl | rfl <;> rfl
  rw [hsh]
  exact ⟨u64_or_nat v (2 ^ f) (by omega) (by omega), Nat.or_lt_two_pow (n := 7) hv hp⟩

set_option maxRecDepth 100000 in
set_option maxHeartbeats 1600000 in
/-- (*raft.Node).hearYes, of a candidate -/
theorem hear2_any (base g : Nat) (x : NodeM) (f : Nat) (S : Nat → Prop) (w : World) (h : NodeAt w base g x S) (hr : x.role = 2) (hf : (f : Int) < x.n) (hy : x.yes < 128) (hn0 : 0 < x.n) (hn7 : x.n ≤ 7) (hid0 : 0 ≤ x.id) (hid : x.id < x.n) (hl : x.log.length ≤ 1048000) (hB : base ≤ w.heap.size) (ho : x.out.length ≤ 1000000) :
    Calls Try.prog 81 #[.pointer (some ⟨g, 0, none⟩), .int .i64 (f : Int)] w fun e w' => e = .returned (.tuple #[]) ∧ NMoves w base g S (hear2F x f) w' := by
  obtain ⟨L, hL, hS⟩ := h.cell
  have hG := h.own
  obtain ⟨⟨c0, c1, c2, c3⟩, ⟨c4, c5, c6, c7⟩, ⟨c8, c9, c10, c11⟩, ⟨c12, c13, c14, c15, c16⟩⟩ := hL.cells
  have f11 := hL.blk.frozen 11
  have HL := Lib.hid hL
  have HS := Lib.hid hS
  have HG := Lib.hid hG
  have HB := Lib.hid hB
  have HX := Lib.hid (And.intro hn0 (And.intro hn7 (And.intro hid0 (And.intro hid (And.intro hl (And.intro ho (And.intro hf hy)))))))
  have HR := Lib.hid hr
  clear hL hS hG hB h hn0 hn7 hl ho hf hy hid0 hid hr
  go_enter Try.func81, Try.ntmps81
  go_upto_region 1 with (fail)
  go_cut [] (fun wx => NMoves w base g S (heardF x f) wx)
  case first =>
    go_region_with (fail)
    all_goals
      go_wp2_with fail
      go_meet
      obtain ⟨hb, _⟩ := hear_bits x.yes f HX.out.2.2.2.2.2.2.2 (by have := HX.out; omega)
      rw [hb]
      have h1 := HL.out.set 11 (.int .u64 ((x.yes ||| 2 ^ f : Nat) : Int)) (x' := heardF x f) rfl rfl rfl rfl
      exact NMoves.of HS.out (h1.on (Below.refl _ _).drew) (((Turn.refl S w).set_ HG.out 11 _).on (Below.refl _ _).drew)
  case rest =>
    have hlt := (hear_bits x.yes f HX.out.2.2.2.2.2.2.2 (by have := HX.out; omega)).2
    have hle : hear2F x f = if mostF (heardF x f) (heardF x f).yes then leadF (heardF x f) else heardF x f := rfl
    have hx : 0 < (heardF x f).n ∧ (heardF x f).n ≤ 7 ∧ 0 ≤ (heardF x f).id ∧ (heardF x f).id < (heardF x f).n ∧ (heardF x f).log.length ≤ 1048000 ∧ (heardF x f).out.length ≤ 1000000 ∧ (heardF x f).yes < 128 ∧ (heardF x f).role = 2 :=
      ⟨HX.out.1, HX.out.2.1, HX.out.2.2.1, HX.out.2.2.2.1, HX.out.2.2.2.2.1, HX.out.2.2.2.2.2.1, hlt, HR.out⟩
    generalize heardF x f = y at hcut hle hx
    obtain ⟨S1, hna, htu, hsu⟩ := hcut
    obtain ⟨x1, x2, x3, x4, x5, x6, x7, x8⟩ := hx
    have HMO := Lib.hid (most_any base g y y.yes x7 S1 wc hna)
    have HLD := Lib.hid (fun W (hW : Below wc.heap.size wc W) => lead_any base g y S1 W (hna.on hW) x1 x2 x3 x4 x5 (Nat.le_trans (Nat.le_trans HB.out htu.size) hW.size) x6)
    obtain ⟨L1, hL1, hS1⟩ := hna.cell
    obtain ⟨_, _, ⟨_, _, _, c11⟩, _⟩ := hL1.cells
    have HL1 := Lib.hid hL1
    have HNA := Lib.hid hna
    have HTU := Lib.hid htu
    have HSU := Lib.hid hsu
    have HR2 := Lib.hid x8
    have HLE := Lib.hid hle
    clear hL1 hS1 hna htu hsu x1 x2 x3 x4 x5 x6 x7 x8 hle hlt f11 HL HR HX HS HG
    go_wp2_with fail
    refine HMO.out.mono ?_
    rintro e w3 ⟨rfl, _, hbel⟩
    have c8 := (HL1.out.on hbel).cells.2.2.1.1
    rw [HR2.out] at c8
    have HW := Lib.hid hbel
    clear hbel c11 HMO
    cases hm : mostF y y.yes
    · have hle := HLE.out
      rw [hm] at hle
      have HLF := Lib.hid hle
      clear hle HLE hm HLD
      go_wp2_with fail
      refine bodyPost_ret (results_none rfl _ _ _) rfl ?_
      rw [HLF.out]
      exact ⟨rfl, NMoves.trans HTU.out HSU.out (NMoves.on HNA.out HW.out)⟩
    · have hle := HLE.out
      rw [hm] at hle
      have HLF := Lib.hid hle
      clear hle HLE hm
      go_wp2_with fail
      refine (HLD.out _ HW.out).mono ?_
      rintro e w4 ⟨rfl, hmv⟩
      have HM := Lib.hid (NMoves.trans (HTU.out.on HW.out) (fun i hi => (HSU.out i hi).imp id (fun h => ⟨h.1, Nat.lt_of_lt_of_le h.2 HW.out.size⟩)) hmv)
      clear hmv
      go_wp2_with fail
      go_end0
      rw [HLF.out]
      exact ⟨rfl, HM.out⟩
end Go.Proofs.Ytlggkeoihpcdiaa

/- The walk of package raft's stand. -/
namespace Go.Proofs.Ytlggkeoihpcdiaa
open Go.RowKit

/-- only out has turned, and has so many more at most -/
def Told (x y : NodeM) (k : Nat) : Prop := ∃ o, y = { x with out := o } ∧ o.length ≤ x.out.length + k
theorem told_fold (step : NodeM → Nat → NodeM) (hstep : ∀ y j, step y j = y ∨ ∃ m, step y j = tellF y m) (x : NodeM) : ∀ (l : List Nat) (y : NodeM) (k : Nat), Told x y k → Told x (l.foldl step y) (k + l.length) := by
  intro l
  induction l with
  | nil => intro y k h; exact h
  | cons j l ih =>
    intro y k h
    obtain ⟨o, rfl, ho⟩ := h
    have h2 : Told x (step { x with out := o } j) (k + 1) := by
      rcases hstep { x with out := o } j with e | ⟨m, e⟩
      · rw [e]
        exact ⟨o, rfl, by omega⟩
      · rw [e]
        exact ⟨o ++ [{ m with f := x.id }], rfl, by simp; omega⟩
    have h3 := ih _ _ h2
    rw [List.foldl_cons, show k + (j :: l).length = k + 1 + l.length from by simp; omega]
    exact h3
theorem askAllF_told (x : NodeM) (kd tm : Int) : Told x (askAllF x kd tm) x.n.toNat := by
  have h := told_fold (askStep x.log.length (lastT x.log) kd tm) (fun y j => by unfold askStep; split; exact .inl rfl; exact .inr ⟨_, rfl⟩) x (List.range x.n.toNat) x 0 ⟨x.out, rfl, Nat.le_refl _⟩
  rw [List.length_range, Nat.zero_add] at h
  exact h
theorem sendAllF_told (x : NodeM) : Told x (sendAllF x) x.n.toNat := by
  have h := told_fold sendStep (fun y j => by unfold sendStep; split; exact .inl rfl; exact .inr ⟨_, rfl⟩) x (List.range x.n.toNat) x 0 ⟨x.out, rfl, Nat.le_refl _⟩
  rw [List.length_range, Nat.zero_add] at h
  exact h

def standF (x : NodeM) : NodeM := hear2F (askAllF { x with term := x.term + 1, vote := x.id, fresh := true, role := 2, since := 0, yes := 0 } 3 (x.term + 1)) x.id.toNat

set_option maxRecDepth 100000 in
set_option maxHeartbeats 1600000 in
/-- (*raft.Node).stand -/
theorem stand_any (base g : Nat) (x : NodeM) (S : Nat → Prop) (w : World) (h : NodeAt w base g x S) (ht0 : 0 ≤ x.term) (ht : x.term ≤ 4611686018427387904) (hn0 : 0 < x.n) (hn7 : x.n ≤ 7) (hid0 : 0 ≤ x.id) (hid : x.id < x.n) (hl : x.log.length ≤ 1048000) (hB : base ≤ w.heap.size) (ho : x.out.length ≤ 999990) :
    Calls Try.prog 104 #[.pointer (some ⟨g, 0, none⟩)] w fun e w' => e = .returned (.tuple #[]) ∧ NMoves w base g S (standF x) w' := by
  obtain ⟨L, hL, hS⟩ := h.cell
  have hG := h.own
  obtain ⟨⟨c0, c1, c2, c3⟩, ⟨c4, c5, c6, c7⟩, ⟨c8, c9, c10, c11⟩, ⟨c12, c13, c14, c15, c16⟩⟩ := hL.cells
  have f4 := hL.blk.frozen 4
  have f5 := hL.blk.frozen 5
  have f15 := hL.blk.frozen 15
  have hw1 : IntKind.i64.wrap (x.term + 1) = x.term + 1 := by rw [IntKind.wrap_i64]; omega
  have HL := Lib.hid hL
  have HS := Lib.hid hS
  have HG := Lib.hid hG
  have HB := Lib.hid hB
  have HX := Lib.hid (And.intro hn0 (And.intro hn7 (And.intro hid0 (And.intro hid (And.intro hl ho)))))
  clear hL hS hG hB h hn0 hn7 hl ho
  obtain ⟨d, hd⟩ : ∃ d : Nat, x.id = (d : Int) := ⟨x.id.toNat, by omega⟩
  have hd2 : x.id.toNat = d := by omega
  rw [hd] at c0
  have HD := Lib.hid (And.intro hd hd2)
  clear hd hd2 hid0 hid ht0 ht
  go_enter Try.func104, Try.ntmps104
  go_upto_region 1 with (fail)
  go_cut [] (fun wx => NMoves w base g S { x with term := x.term + 1, vote := (d : Int), fresh := true } wx)
  case first =>
    go_region_with (fail)
    all_goals
      go_wp2_with fail
      go_meet
      have h8 := HL.out.set 4 (.int .i64 (x.term + 1)) (x' := { x with term := x.term + 1 }) rfl rfl rfl rfl
      have h9 := h8.set 5 (.int .i64 (d : Int)) (x' := { x with term := x.term + 1, vote := (d : Int) }) rfl rfl rfl rfl
      have h10 := h9.set 15 (.bool true) (x' := { x with term := x.term + 1, vote := (d : Int), fresh := true }) rfl rfl rfl rfl
      have ht := (((Turn.refl S w).set_ HG.out 4 (.int .i64 (x.term + 1))).set_ HG.out 5 (.int .i64 (d : Int))).set_ HG.out 15 (.bool true)
      exact NMoves.of HS.out (h10.on (Below.refl _ _).drew) (ht.on (Below.refl _ _).drew)
  case rest =>
    have hcut' : ∃ y : NodeM, y = { x with term := x.term + 1, vote := (d : Int), fresh := true } ∧ NMoves w base g S y wc := ⟨_, rfl, hcut⟩
    clear hcut
    obtain ⟨y, hy, S1, hna, htu, hsu⟩ := hcut'
    obtain ⟨L1, hL1, hS1⟩ := hna.cell
    have hG1 := hna.own
    obtain ⟨⟨_, _, _, _⟩, ⟨_, _, _, _⟩, ⟨c8, _, c10, c11⟩, _⟩ := hL1.cells
    have f8 := hL1.blk.frozen 8
    have f10 := hL1.blk.frozen 10
    have f11 := hL1.blk.frozen 11
    have hset := ((hL1.set 8 (.int .i64 2) (x' := { y with role := 2 }) rfl rfl rfl rfl).set 10 (.int .i64 0) (x' := { y with role := 2, since := 0 }) rfl rfl rfl rfl).set 11 (.int .u64 0) (x' := { y with role := 2, since := 0, yes := 0 }) rfl rfl rfl rfl
    have hmv := ((((Turn.refl S1 wc).set_ hG1 8 (.int .i64 2)).set_ hG1 10 (.int .i64 0)).set_ hG1 11 (.int .u64 0))
    have HZ := Lib.hid (NMoves.trans htu hsu (NMoves.of hS1 hset hmv))
    have HY := Lib.hid hy
    clear hna htu hsu hL1 hS1 hG1 hset hmv hy f4 f5 f15 HL HS HG
    go_upto_region 2 with (fail)
    have hz := HZ.out
    clear HZ c8 c10 c11 f8 f10 f11
    generalize (((wc.setCell ⟨g, 8, none⟩ (.int .i64 2)).setCell ⟨g, 10, none⟩ (.int .i64 0)).setCell ⟨g, 11, none⟩ (.int .u64 0)) = w2 at *
    obtain ⟨z, hz1⟩ : ∃ z : NodeM, z = { y with role := 2, since := 0, yes := 0 } := ⟨_, rfl⟩
    rw [← hz1] at hz
    have hle : standF x = hear2F (askAllF z 3 (x.term + 1)) d := by
      rw [hz1, HY.out]
      unfold standF
      rw [HD.out.2, HD.out.1]
    have hx : z.id = (d : Int) ∧ z.n = x.n ∧ z.log = x.log ∧ z.out = x.out ∧ z.role = 2 ∧ z.yes = 0 ∧ z.term = x.term + 1 := by
      rw [hz1, HY.out]
      exact ⟨HD.out.1, rfl, rfl, rfl, rfl, rfl, rfl⟩
    clear hz1 HY
    obtain ⟨x1, x2, x3, x4, x5, x6, x7⟩ := hx
    obtain ⟨S2, hna2, htu2, hsu2⟩ := hz
    obtain ⟨L2, hL2, _⟩ := hna2.cell
    obtain ⟨_, ⟨c4, _, _, _⟩, _⟩ := hL2.cells
    rw [x7] at c4
    have HAS := Lib.hid (askAll_any base g z 3 (x.term + 1) S2 w2 hna2 (by rw [x2]; exact HX.out.1) (by rw [x2]; exact HX.out.2.1) (by rw [x3]; have := HX.out; omega) (Nat.le_trans HB.out htu2.size) (by rw [x4]; have := HX.out; omega))
    have htold := askAllF_told z 3 (x.term + 1)
    have hfa : ∃ a, a = askAllF z 3 (x.term + 1) := ⟨_, rfl⟩
    obtain ⟨a, ha⟩ := hfa
    rw [← ha] at hle HAS htold
    obtain ⟨o, hao, hol⟩ := htold
    have HAX := Lib.hid (show a.id = (d : Int) ∧ a.n = x.n ∧ a.log = x.log ∧ a.out.length ≤ 1000000 ∧ a.role = 2 ∧ a.yes = 0 from by
      rw [hao]
      refine ⟨x1, x2, x3, ?_, x5, x6⟩
      simp only
      rw [x2, x4] at hol
      have := HX.out
      omega)
    have HTU := Lib.hid htu2
    have HSU := Lib.hid hsu2
    have HLE := Lib.hid hle
    clear ha hao hol hle x1 x2 x3 x4 x5 x6 x7 hL2 hna2 htu2 hsu2
    go_wp2_with fail
    refine HAS.out.mono ?_
    rintro e w3 ⟨rfl, S3, hna3, htu3, hsu3⟩
    obtain ⟨ht3, hs3⟩ := NMoves.and HTU.out HSU.out htu3 hsu3
    obtain ⟨L3, hL3, _⟩ := hna3.cell
    obtain ⟨⟨c0, _, _, _⟩, _⟩ := hL3.cells
    rw [HAX.out.1] at c0
    have hdn : (d : Int) < x.n := by have h1 := HX.out; have h2 := HD.out; omega
    have HH := Lib.hid (hear2_any base g a d S3 w3 hna3 HAX.out.2.2.2.2.1 (by rw [HAX.out.2.1]; exact hdn) (by rw [HAX.out.2.2.2.2.2]; decide) (by rw [HAX.out.2.1]; exact HX.out.1) (by rw [HAX.out.2.1]; exact HX.out.2.1) (by rw [HAX.out.1]; omega) (by rw [HAX.out.1, HAX.out.2.1]; exact hdn) (by rw [HAX.out.2.2.1]; exact HX.out.2.2.2.2.1) (Nat.le_trans HB.out ht3.size) HAX.out.2.2.2.1)
    have HT3 := Lib.hid ht3
    have HS3 := Lib.hid hs3
    clear hL3 hna3 htu3 hsu3 ht3 hs3 hdn c4 HAS
    go_wp2_with fail
    refine HH.out.mono ?_
    rintro e w4 ⟨rfl, hm⟩
    have HM := Lib.hid (NMoves.trans HT3.out HS3.out hm)
    clear hm
    go_wp2_with fail
    go_end0
    rw [HLE.out]
    exact ⟨rfl, HM.out⟩
end Go.Proofs.Ytlggkeoihpcdiaa

/- The walks of package raft's hearYes, of an asker, and of ask. -/
namespace Go.Proofs.Ytlggkeoihpcdiaa
open Go.RowKit

/-- what hearYes leaves of an asker -/
def hear1F (x : NodeM) (f : Nat) : NodeM := if mostF x (x.yes ||| 2 ^ f) then standF (heardF x f) else heardF x f

set_option maxRecDepth 100000 in
set_option maxHeartbeats 1600000 in
/-- (*raft.Node).hearYes, of an asker -/
theorem hear1_any (base g : Nat) (x : NodeM) (f : Nat) (S : Nat → Prop) (w : World) (h : NodeAt w base g x S) (hr : x.role = 1) (hf : (f : Int) < x.n) (hy : x.yes < 128) (hn0 : 0 < x.n) (hn7 : x.n ≤ 7) (hid0 : 0 ≤ x.id) (hid : x.id < x.n) (hl : x.log.length ≤ 1048000) (hB : base ≤ w.heap.size) (ho : x.out.length ≤ 999990) (ht0 : 0 ≤ x.term) (ht : x.term ≤ 4611686018427387904) :
    Calls Try.prog 81 #[.pointer (some ⟨g, 0, none⟩), .int .i64 (f : Int)] w fun e w' => e = .returned (.tuple #[]) ∧ NMoves w base g S (hear1F x f) w' := by
  obtain ⟨L, hL, hS⟩ := h.cell
  have hG := h.own
  obtain ⟨⟨c0, c1, c2, c3⟩, ⟨c4, c5, c6, c7⟩, ⟨c8, c9, c10, c11⟩, ⟨c12, c13, c14, c15, c16⟩⟩ := hL.cells
  have f11 := hL.blk.frozen 11
  have HL := Lib.hid hL
  have HS := Lib.hid hS
  have HG := Lib.hid hG
  have HB := Lib.hid hB
  have HX := Lib.hid (And.intro hn0 (And.intro hn7 (And.intro hid0 (And.intro hid (And.intro hl (And.intro ho (And.intro hf (And.intro hy (And.intro ht0 ht)))))))))
  have HR := Lib.hid hr
  clear hL hS hG hB h hn0 hn7 hl ho hf hy hid0 hid hr ht0 ht
  go_enter Try.func81, Try.ntmps81
  go_upto_region 1 with (fail)
  go_cut [] (fun wx => NMoves w base g S (heardF x f) wx)
  case first =>
    go_region_with (fail)
    all_goals
      go_wp2_with fail
      go_meet
      obtain ⟨hb, _⟩ := hear_bits x.yes f HX.out.2.2.2.2.2.2.2.1 (by have := HX.out; omega)
      rw [hb]
      have h1 := HL.out.set 11 (.int .u64 ((x.yes ||| 2 ^ f : Nat) : Int)) (x' := heardF x f) rfl rfl rfl rfl
      exact NMoves.of HS.out (h1.on (Below.refl _ _).drew) (((Turn.refl S w).set_ HG.out 11 _).on (Below.refl _ _).drew)
  case rest =>
    have hlt := (hear_bits x.yes f HX.out.2.2.2.2.2.2.2.1 (by have := HX.out; omega)).2
    have hle : hear1F x f = if mostF (heardF x f) (heardF x f).yes then standF (heardF x f) else heardF x f := rfl
    have hx : 0 < (heardF x f).n ∧ (heardF x f).n ≤ 7 ∧ 0 ≤ (heardF x f).id ∧ (heardF x f).id < (heardF x f).n ∧ (heardF x f).log.length ≤ 1048000 ∧ (heardF x f).out.length ≤ 999990 ∧ (heardF x f).yes < 128 ∧ (heardF x f).role = 1 ∧ 0 ≤ (heardF x f).term ∧ (heardF x f).term ≤ 4611686018427387904 :=
      ⟨HX.out.1, HX.out.2.1, HX.out.2.2.1, HX.out.2.2.2.1, HX.out.2.2.2.2.1, HX.out.2.2.2.2.2.1, hlt, HR.out, HX.out.2.2.2.2.2.2.2.2.1, HX.out.2.2.2.2.2.2.2.2.2⟩
    generalize heardF x f = y at hcut hle hx
    obtain ⟨S1, hna, htu, hsu⟩ := hcut
    obtain ⟨x1, x2, x3, x4, x5, x6, x7, x8, x9, x10⟩ := hx
    have HMO := Lib.hid (most_any base g y y.yes x7 S1 wc hna)
    have HLD := Lib.hid (fun W (hW : Below wc.heap.size wc W) => stand_any base g y S1 W (hna.on hW) x9 x10 x1 x2 x3 x4 x5 (Nat.le_trans (Nat.le_trans HB.out htu.size) hW.size) x6)
    obtain ⟨L1, hL1, hS1⟩ := hna.cell
    obtain ⟨_, _, ⟨_, _, _, c11⟩, _⟩ := hL1.cells
    have HL1 := Lib.hid hL1
    have HNA := Lib.hid hna
    have HTU := Lib.hid htu
    have HSU := Lib.hid hsu
    have HR2 := Lib.hid x8
    have HLE := Lib.hid hle
    clear hL1 hS1 hna htu hsu x1 x2 x3 x4 x5 x6 x7 x8 x9 x10 hle hlt f11 HL HR HX HS HG
    go_wp2_with fail
    refine HMO.out.mono ?_
    rintro e w3 ⟨rfl, _, hbel⟩
    have c8 := (HL1.out.on hbel).cells.2.2.1.1
    rw [HR2.out] at c8
    have HW := Lib.hid hbel
    clear hbel c11 HMO
    cases hm : mostF y y.yes
    · have hle := HLE.out
      rw [hm] at hle
      have HLF := Lib.hid hle
      clear hle HLE hm HLD
      go_wp2_with fail
      refine bodyPost_ret (results_none rfl _ _ _) rfl ?_
      rw [HLF.out]
      exact ⟨rfl, NMoves.trans HTU.out HSU.out (NMoves.on HNA.out HW.out)⟩
    · have hle := HLE.out
      rw [hm] at hle
      have HLF := Lib.hid hle
      clear hle HLE hm
      go_wp2_with fail
      refine (HLD.out _ HW.out).mono ?_
      rintro e w4 ⟨rfl, hmv⟩
      have HM := Lib.hid (NMoves.trans (HTU.out.on HW.out) (fun i hi => (HSU.out i hi).imp id (fun h => ⟨h.1, Nat.lt_of_lt_of_le h.2 HW.out.size⟩)) hmv)
      clear hmv
      go_wp2_with fail
      go_end0
      rw [HLF.out]
      exact ⟨rfl, HM.out⟩

def askF (x : NodeM) : NodeM := hear1F (askAllF { x with role := 1, leader := -1, since := 0, yes := 0 } 1 (x.term + 1)) x.id.toNat

set_option maxRecDepth 100000 in
set_option maxHeartbeats 1600000 in
/-- (*raft.Node).ask -/
theorem ask_any (base g : Nat) (x : NodeM) (S : Nat → Prop) (w : World) (h : NodeAt w base g x S) (ht0 : 0 ≤ x.term) (ht : x.term ≤ 4611686018427387904) (hn0 : 0 < x.n) (hn7 : x.n ≤ 7) (hid0 : 0 ≤ x.id) (hid : x.id < x.n) (hl : x.log.length ≤ 1048000) (hB : base ≤ w.heap.size) (ho : x.out.length ≤ 999980) :
    Calls Try.prog 55 #[.pointer (some ⟨g, 0, none⟩)] w fun e w' => e = .returned (.tuple #[]) ∧ NMoves w base g S (askF x) w' := by
  obtain ⟨L, hL, hS⟩ := h.cell
  have hG := h.own
  obtain ⟨⟨c0, c1, c2, c3⟩, ⟨c4, c5, c6, c7⟩, ⟨c8, c9, c10, c11⟩, ⟨c12, c13, c14, c15, c16⟩⟩ := hL.cells
  have f8 := hL.blk.frozen 8
  have f9 := hL.blk.frozen 9
  have f10 := hL.blk.frozen 10
  have f11 := hL.blk.frozen 11
  have hw1 : IntKind.i64.wrap (x.term + 1) = x.term + 1 := by rw [IntKind.wrap_i64]; omega
  have hset := (((hL.set 8 (.int .i64 1) (x' := { x with role := 1 }) rfl rfl rfl rfl).set 9 (.int .i64 (-1)) (x' := { x with role := 1, leader := -1 }) rfl rfl rfl rfl).set 10 (.int .i64 0) (x' := { x with role := 1, leader := -1, since := 0 }) rfl rfl rfl rfl).set 11 (.int .u64 0) (x' := { x with role := 1, leader := -1, since := 0, yes := 0 }) rfl rfl rfl rfl
  have hmv := (((((Turn.refl S w).set_ hG 8 (.int .i64 1)).set_ hG 9 (.int .i64 (-1))).set_ hG 10 (.int .i64 0)).set_ hG 11 (.int .u64 0))
  have HZ := Lib.hid (NMoves.of hS hset hmv)
  have HB := Lib.hid hB
  have HX := Lib.hid (And.intro hn0 (And.intro hn7 (And.intro hid0 (And.intro hid (And.intro hl ho)))))
  have HT := Lib.hid (And.intro ht0 ht)
  obtain ⟨d, hd⟩ : ∃ d : Nat, x.id = (d : Int) := ⟨x.id.toNat, by omega⟩
  have hd2 : x.id.toNat = d := by omega
  have HD := Lib.hid (And.intro hd hd2)
  clear hL hS hG hB h hn0 hn7 hl ho hset hmv hd hd2 hid0 hid ht0 ht
  go_enter Try.func55, Try.ntmps55
  go_upto_region 1 with (fail)
  have hz := HZ.out
  clear HZ c0 c1 c2 c3 c4 c5 c6 c7 c8 c9 c10 c11 c12 c13 c14 c15 c16 f8 f9 f10 f11
  generalize ((((w.setCell ⟨g, 8, none⟩ (.int .i64 1)).setCell ⟨g, 9, none⟩ (.int .i64 (-1))).setCell ⟨g, 10, none⟩ (.int .i64 0)).setCell ⟨g, 11, none⟩ (.int .u64 0)) = w2 at *
  obtain ⟨z, hz1⟩ : ∃ z : NodeM, z = { x with role := 1, leader := -1, since := 0, yes := 0 } := ⟨_, rfl⟩
  rw [← hz1] at hz
  have hle : askF x = hear1F (askAllF z 1 (x.term + 1)) d := by
    rw [hz1]
    unfold askF
    rw [HD.out.2]
  have hx : z.id = (d : Int) ∧ z.n = x.n ∧ z.log = x.log ∧ z.out = x.out ∧ z.role = 1 ∧ z.yes = 0 ∧ z.term = x.term := by
    rw [hz1]
    exact ⟨HD.out.1, rfl, rfl, rfl, rfl, rfl, rfl⟩
  clear hz1
  obtain ⟨x1, x2, x3, x4, x5, x6, x7⟩ := hx
  obtain ⟨S2, hna2, htu2, hsu2⟩ := hz
  obtain ⟨L2, hL2, _⟩ := hna2.cell
  obtain ⟨_, ⟨c4, _, _, _⟩, _⟩ := hL2.cells
  rw [x7] at c4
  have HAS := Lib.hid (askAll_any base g z 1 (x.term + 1) S2 w2 hna2 (by rw [x2]; exact HX.out.1) (by rw [x2]; exact HX.out.2.1) (by rw [x3]; have := HX.out; omega) (Nat.le_trans HB.out htu2.size) (by rw [x4]; have := HX.out; omega))
  have htold := askAllF_told z 1 (x.term + 1)
  have hfa : ∃ a, a = askAllF z 1 (x.term + 1) := ⟨_, rfl⟩
  obtain ⟨a, ha⟩ := hfa
  rw [← ha] at hle HAS htold
  obtain ⟨o, hao, hol⟩ := htold
  have HAX := Lib.hid (show a.id = (d : Int) ∧ a.n = x.n ∧ a.log = x.log ∧ a.out.length ≤ 999990 ∧ a.role = 1 ∧ a.yes = 0 ∧ a.term = x.term from by
    rw [hao]
    refine ⟨x1, x2, x3, ?_, x5, x6, x7⟩
    simp only
    rw [x2, x4] at hol
    have := HX.out
    omega)
  have HTU := Lib.hid htu2
  have HSU := Lib.hid hsu2
  have HLE := Lib.hid hle
  clear ha hao hol hle x1 x2 x3 x4 x5 x6 x7 hL2 hna2 htu2 hsu2
  go_wp2_with fail
  refine HAS.out.mono ?_
  rintro e w3 ⟨rfl, S3, hna3, htu3, hsu3⟩
  obtain ⟨ht3, hs3⟩ := NMoves.and HTU.out HSU.out htu3 hsu3
  obtain ⟨L3, hL3, _⟩ := hna3.cell
  obtain ⟨⟨c0, _, _, _⟩, _⟩ := hL3.cells
  rw [HAX.out.1] at c0
  have hdn : (d : Int) < x.n := by have h1 := HX.out; have h2 := HD.out; omega
  have HH := Lib.hid (hear1_any base g a d S3 w3 hna3 HAX.out.2.2.2.2.1 (by rw [HAX.out.2.1]; exact hdn) (by rw [HAX.out.2.2.2.2.2.1]; decide) (by rw [HAX.out.2.1]; exact HX.out.1) (by rw [HAX.out.2.1]; exact HX.out.2.1) (by rw [HAX.out.1]; omega) (by rw [HAX.out.1, HAX.out.2.1]; exact hdn) (by rw [HAX.out.2.2.1]; exact HX.out.2.2.2.2.1) (Nat.le_trans HB.out ht3.size) HAX.out.2.2.2.1 (by rw [HAX.out.2.2.2.2.2.2]; exact HT.out.1) (by rw [HAX.out.2.2.2.2.2.2]; exact HT.out.2))
  have HT3 := Lib.hid ht3
  have HS3 := Lib.hid hs3
  clear hL3 hna3 htu3 hsu3 ht3 hs3 hdn c4 HAS
  go_wp2_with fail
  refine HH.out.mono ?_
  rintro e w4 ⟨rfl, hm⟩
  have HM := Lib.hid (NMoves.trans HT3.out HS3.out hm)
  clear hm
  go_wp2_with fail
  go_end0
  rw [HLE.out]
  exact ⟨rfl, HM.out⟩
end Go.Proofs.Ytlggkeoihpcdiaa

/- The walks of package raft's tickLeader and Tick. -/
namespace Go.Proofs.Ytlggkeoihpcdiaa
open Go.RowKit

def beatF (x : NodeM) : NodeM := if x.since.tmod x.be = 0 then sendAllF x else x
def tickLF (x : NodeM) : NodeM :=
  if (beatF x).since.tmod (beatF x).el ≠ 0 then beatF x
  else { (if mostF (beatF x) (beatF x).heard then beatF x else followF (beatF x) (beatF x).term (-1)) with heard := 2 ^ x.id.toNat }

/-- the rest of a leader's tick, behind its sending -/
def tickRF (y : NodeM) : NodeM := if y.since.tmod y.el ≠ 0 then y else { (if mostF y y.heard then y else followF y y.term (-1)) with heard := 2 ^ y.id.toNat }
theorem beatF_told (x : NodeM) : Told x (beatF x) x.n.toNat := by
  unfold beatF
  split
  · exact sendAllF_told x
  · exact ⟨x.out, rfl, by omega⟩
theorem tickLF_eq (x : NodeM) : tickLF x = tickRF (beatF x) := by
  obtain ⟨o, ho, _⟩ := beatF_told x
  unfold tickLF tickRF
  rw [ho]

set_option maxRecDepth 100000 in
set_option maxHeartbeats 1600000 in
/-- (*raft.Node).tickLeader -/
theorem tickLeader_any (base g : Nat) (x : NodeM) (S : Nat → Prop) (w : World) (h : NodeAt w base g x S) (hbe : 0 < x.be) (hel : 0 < x.el) (hs0 : 0 ≤ x.since) (hs : x.since ≤ 4611686018427387904) (hhe : x.heard < 128) (hn0 : 0 < x.n) (hn7 : x.n ≤ 7) (hid0 : 0 ≤ x.id) (hid : x.id < x.n) (hl : x.log.length ≤ 1048000) (hB : base ≤ w.heap.size) (ho : x.out.length ≤ 999980) (hpl : x.n ≤ x.peers.length) (hpn : ∀ p ∈ x.peers, 1 ≤ p.next ∧ p.next ≤ 1099511627776) :
    Calls Try.prog 54 #[.pointer (some ⟨g, 0, none⟩)] w fun e w' => e = .returned (.tuple #[]) ∧ NMoves w base g S (tickLF x) w' := by
  obtain ⟨L, hL, hS⟩ := h.cell
  obtain ⟨⟨_, _, _, c3⟩, _, ⟨_, _, c10, _⟩, _⟩ := hL.cells
  have hbe1 : ¬ x.be = 0 := by omega
  have hbe2 : ¬ x.be = -1 := by omega
  have H := Lib.hid h
  have HB := Lib.hid hB
  have HSA := Lib.hid (fun W (hW : Below w.heap.size w W) => sendAll_any base g x S W (h.on hW) hn0 hn7 (by omega) (Nat.le_trans hB hW.size) (by omega) hpl hpn)
  have HX := Lib.hid (And.intro hn0 (And.intro hn7 (And.intro hid0 (And.intro hid (And.intro hl (And.intro ho (And.intro hel (And.intro hhe (And.intro hs0 hs)))))))))
  clear hL hS hB h hn0 hn7 hl ho hpl hpn hid0 hid hel hhe hs0 hs hbe
  go_enter Try.func54, Try.ntmps54
  go_upto_region 1 with (fail)
  go_cut [11] (fun v wx => v = .bool (decide (x.since.tmod x.be = 0)) ∧ Below w.heap.size w wx)
  case first =>
    go_region_with (fail)
    all_goals
      go_wp2_with fail
      go_meet
      exact ⟨rfl, (Below.refl _ _).drew⟩
  case rest =>
    obtain ⟨rfl, hb1⟩ := hcut
    have HB1 := Lib.hid hb1
    clear hb1 c3 c10 hbe1 hbe2
    go_upto_if 11 with (fail)
    go_cut [] (fun wx => NMoves w base g S (beatF x) wx)
    case first =>
      by_cases hz : x.since.tmod x.be = 0
      · have hzd : decide (x.since.tmod x.be = 0) = true := decide_eq_true hz
        have HBF := Lib.hid (show beatF x = sendAllF x from if_pos hz)
        clear hz
        rw [hzd]
        clear hzd
        go_wp2_with fail
        refine (HSA.out _ HB1.out).mono ?_
        rintro e w2 ⟨rfl, hm⟩
        have HM := Lib.hid (NMoves.trans (Turn.of_below HB1.out) (fun _ hk => .inl hk) hm)
        clear hm
        go_wp2_with fail
        go_meet
        rw [HBF.out]
        exact HM.out
      · have hzd : decide (x.since.tmod x.be = 0) = false := decide_eq_false hz
        have HBF := Lib.hid (show beatF x = x from if_neg hz)
        clear hz
        rw [hzd]
        clear hzd
        go_wp2_with fail
        go_meet
        rw [HBF.out]
        exact NMoves.on H.out HB1.out
    case rest =>
      have hte := tickLF_eq x
      obtain ⟨o, ho, hol⟩ := beatF_told x
      have hx : (beatF x).since = x.since ∧ (beatF x).el = x.el ∧ (beatF x).heard = x.heard ∧ (beatF x).id = x.id ∧ (beatF x).n = x.n := by rw [ho]; exact ⟨rfl, rfl, rfl, rfl, rfl⟩
      clear ho hol
      generalize beatF x = y at *
      clear o HSA H HB1
      have HTE := Lib.hid hte
      clear hte
      obtain ⟨S1, hna, htu, hsu⟩ := hcut
      obtain ⟨x1, x2, x3, x4, x5⟩ := hx
      obtain ⟨L1, hL1, hS1⟩ := hna.cell
      obtain ⟨⟨_, _, c2, _⟩, _, ⟨_, _, c10, _⟩, _⟩ := hL1.cells
      have hel1 : ¬ y.el = 0 := by have := HX.out; omega
      have hel2 : ¬ y.el = -1 := by have := HX.out; omega
      obtain ⟨d, hd⟩ : ∃ d : Nat, y.id = (d : Int) := ⟨y.id.toNat, by have := HX.out; omega⟩
      have HD := Lib.hid (show y.id = (d : Int) ∧ y.id.toNat = d ∧ d < 7 ∧ y.heard < 128 from ⟨hd, by omega, by have := HX.out; omega, by rw [x3]; exact HX.out.2.2.2.2.2.2.2.1⟩)
      have HNA := Lib.hid hna
      have HTU := Lib.hid htu
      have HSU := Lib.hid hsu
      clear hL1 hS1 hna htu hsu x1 x2 x3 x4 x5 hd
      go_upto_region 3 with (fail)
      go_cut [23] (fun v wx => v = .bool (!decide (y.since.tmod y.el = 0)) ∧ Below wc.heap.size wc wx)
      case first =>
        go_region_with (fail)
        all_goals
          go_wp2_with fail
          go_meet
          exact ⟨rfl, (Below.refl _ _).drew⟩
      case rest =>
        obtain ⟨rfl, hb1⟩ := hcut
        have HB1 := Lib.hid hb1
        have HNB := Lib.hid (HNA.out.on hb1)
        have HTB := Lib.hid (HTU.out.on hb1)
        have HSB := Lib.hid (show ∀ i, S1 i → S i ∨ (w.heap.size ≤ i ∧ i < wc.heap.size) from fun i hi => (HSU.out i hi).imp id (fun h => ⟨h.1, Nat.lt_of_lt_of_le h.2 hb1.size⟩))
        clear hb1 c2 c10 hel1 hel2 HB1 HTU HSU HNA
        by_cases hz : y.since.tmod y.el = 0
        · have hzd : decide (y.since.tmod y.el = 0) = true := decide_eq_true hz
          have hle : tickRF y = { (if mostF y y.heard then y else followF y y.term (-1)) with heard := 2 ^ d } := by
            unfold tickRF
            rw [if_neg (fun h => h hz), HD.out.2.1]
          rw [hzd]
          clear hz hzd
          have HMO := Lib.hid (most_any base g y y.heard HD.out.2.2.2 S1 wc HNB.out)
          have HFO := Lib.hid (fun W (hW : Below wc.heap.size wc W) => follow_any base g y y.term (-1) S1 W (HNB.out.on hW))
          obtain ⟨L2, hL2, _⟩ := HNB.out.cell
          obtain ⟨_, _, _, ⟨c12, _, _, _, _⟩⟩ := hL2.cells
          have HL2 := Lib.hid hL2
          have HLE := Lib.hid hle
          clear hle hL2
          go_upto_if 30 with (first | (refine HMO.out.mono ?_; rintro e w2 ⟨rfl, _, hb2⟩; have HB2 := Lib.hid hb2; clear hb2))
          clear HMO c12
          go_cut [] (fun wx => NMoves wc base g S1 (if mostF y y.heard = true then y else followF y y.term (-1)) wx)
          case first =>
            cases hm : mostF y y.heard
            · have c4 := (HL2.out.on HB2.out).cells.2.1.1
              go_wp2_with fail
              refine (HFO.out _ HB2.out).mono ?_
              rintro e w3 ⟨rfl, hmv⟩
              have HM := Lib.hid (NMoves.trans (Turn.of_below HB2.out) (fun _ hk => .inl hk) hmv)
              clear hmv
              go_wp2_with fail
              go_meet
              rw [if_neg (by rw [hm]; decide)]
              exact HM.out
            · go_wp2_with fail
              go_meet
              rw [if_pos hm]
              exact NMoves.on HNB.out HB2.out
          case rest =>
            have hvid : (if mostF y y.heard = true then y else followF y y.term (-1)).id = (d : Int) := by
              split
              · exact HD.out.1
              · unfold followF
                split <;> exact HD.out.1
            have hle := HLE.out
            clear HLE HFO HL2 HB2
            generalize (if mostF y y.heard = true then y else followF y y.term (-1)) = v at *
            obtain ⟨S3, hna3, htu3, hsu3⟩ := hcut
            obtain ⟨ht3, hs3⟩ := NMoves.and HTB.out HSB.out htu3 hsu3
            obtain ⟨L3, hL3, hS3⟩ := hna3.cell
            have hG3 := hna3.own
            obtain ⟨⟨c0, _, _, _⟩, _, _, ⟨c12, _, _, _, _⟩⟩ := hL3.cells
            rw [hvid] at c0
            have f12 := hL3.blk.frozen 12
            have h12 := hL3.set 12 (.int .u64 ((2 ^ d : Nat) : Int)) (x' := { v with heard := 2 ^ d }) rfl rfl rfl rfl
            have HM := Lib.hid (NMoves.trans ht3 hs3 (NMoves.of hS3 h12 ((Turn.refl S3 _).set_ hG3 12 _)))
            have HLF := Lib.hid (HTE.out.trans hle)
            clear hL3 hS3 hG3 hna3 ht3 hs3 htu3 hsu3 h12 hle HTE hvid HNB HTB HSB
            go_wp2_with fail
            go_end0
            have hsh : IntKind.u64.wrap ((2 : Int) ^ (min d 64)) = ((2 ^ d : Nat) : Int) := by
              have hd7 := HD.out.2.2.1
              have h : d = 0 ∨ d = 1 ∨ d = 2 ∨ d = 3 ∨ d = 4 ∨ d = 5 ∨ d = 6 := by omega
              rcases h with rfl | rfl | rfl | rfl | rfl | rfl | rfl <;> rfl
            rw [hsh, HLF.out]
            exact ⟨rfl, HM.out⟩
        · have hzd : decide (y.since.tmod y.el = 0) = false := decide_eq_false hz
          have hle : tickRF y = y := if_pos hz
          rw [hzd]
          clear hz hzd
          go_wp2_with fail
          refine bodyPost_ret (results_none rfl _ _ _) rfl ?_
          rw [HTE.out, hle]
          exact ⟨rfl, NMoves.trans HTB.out HSB.out (NMoves.same HNB.out)⟩
end Go.Proofs.Ytlggkeoihpcdiaa

/- The walk of package raft's Tick. -/
namespace Go.Proofs.Ytlggkeoihpcdiaa
open Go.RowKit

def tickF (x : NodeM) (dr : Int) : NodeM :=
  let y := { x with since := x.since + 1 }
  if x.role = 3 then tickLF y
  else if x.term < 1099511627776 ∧ x.el + max dr 0 % x.el ≤ x.since + 1 then askF y else y

set_option maxRecDepth 100000 in
set_option maxHeartbeats 1600000 in
/-- (*raft.Node).Tick -/
theorem tick_any (base g : Nat) (x : NodeM) (dr : Int) (S : Nat → Prop) (w : World) (h : NodeAt w base g x S) (hbe : 0 < x.be) (hel : 0 < x.el) (hel2 : x.el ≤ 1099511627776) (hs0 : 0 ≤ x.since) (hs : x.since ≤ 1099511627776) (hhe : x.heard < 128) (ht0 : 0 ≤ x.term) (hn0 : 0 < x.n) (hn7 : x.n ≤ 7) (hid0 : 0 ≤ x.id) (hid : x.id < x.n) (hl : x.log.length ≤ 1048000) (hB : base ≤ w.heap.size) (ho : x.out.length ≤ 999980) (hpl : x.role = 3 → x.n ≤ x.peers.length) (hpn : x.role = 3 → ∀ p ∈ x.peers, 1 ≤ p.next ∧ p.next ≤ 1099511627776) :
    Calls Try.prog 29 #[.pointer (some ⟨g, 0, none⟩), .int .i64 dr] w fun e w' => e = .returned (.tuple #[]) ∧ NMoves w base g S (tickF x dr) w' := by
  obtain ⟨L, hL, hS⟩ := h.cell
  have hG := h.own
  obtain ⟨_, _, ⟨c8, _, c10, _⟩, _⟩ := hL.cells
  have f10 := hL.blk.frozen 10
  have hw1 : IntKind.i64.wrap (x.since + 1) = x.since + 1 := by rw [IntKind.wrap_i64]; omega
  have HMA := Lib.hid (made_any base g x S w h hn0)
  have hset := hL.set 10 (.int .i64 (x.since + 1)) (x' := { x with since := x.since + 1 }) rfl rfl rfl rfl
  have HL1 := Lib.hid hset
  have HS1 := Lib.hid hS
  have HT1 := Lib.hid ((Turn.refl S w).set_ hG 10 (.int .i64 (x.since + 1)))
  have hna : NodeAt (w.setCell ⟨g, 10, none⟩ (.int .i64 (x.since + 1))) base g { x with since := x.since + 1 } S := ⟨L, hset, hS⟩
  have HNA := Lib.hid hna
  have HBW := Lib.hid (Nat.le_trans hB HT1.out.size)
  have HTL := Lib.hid (fun (hr : x.role = 3) => tickLeader_any base g { x with since := x.since + 1 } S _ hna hbe hel (by simp only; omega) (by simp only; omega) hhe hn0 hn7 hid0 hid hl HBW.out ho (hpl hr) (hpn hr))
  have HAK := Lib.hid (fun (ht : x.term < 1099511627776) W (hW : Below (w.setCell ⟨g, 10, none⟩ (.int .i64 (x.since + 1))).heap.size (w.setCell ⟨g, 10, none⟩ (.int .i64 (x.since + 1))) W) => ask_any base g { x with since := x.since + 1 } S W (hna.on hW) ht0 (by simp only; omega) hn0 hn7 hid0 hid hl (Nat.le_trans HBW.out hW.size) ho)
  have HX := Lib.hid (And.intro hel (And.intro hel2 (And.intro hs0 hs)))
  clear hL hS hG hB h hn0 hn7 hl ho hpl hpn hid0 hid hel hel2 hhe hs0 hs hbe ht0 hset hna
  go_enter Try.func29, Try.ntmps29
  go_upto_region 1 with (first | (refine HMA.out.mono ?_; rintro e w2 ⟨rfl, rfl⟩))
  go_upto_region 2 with (fail)
  clear HMA hw1 f10 c8 c10
  generalize (w2.setCell ⟨g, 10, none⟩ (.int .i64 (x.since + 1))) = w3 at *
  obtain ⟨⟨_, _, c2, _⟩, ⟨c4, _, _, _⟩, ⟨c8, _, c10, _⟩, _⟩ := HL1.out.cells
  simp only at c2 c4 c8 c10
  by_cases hr : x.role = 3
  · have HTE := Lib.hid (show tickF x dr = tickLF { x with since := x.since + 1 } from if_pos hr)
    have HTL2 := Lib.hid (HTL.out hr)
    rw [hr] at c8
    clear HTL hr HAK
    go_wp2_with fail
    refine HTL2.out.mono ?_
    rintro e w4 ⟨rfl, hm⟩
    have HM := Lib.hid (NMoves.trans HT1.out (fun _ hk => .inl hk) hm)
    clear hm
    go_wp2_with fail
    refine bodyPost_ret (results_none rfl _ _ _) rfl ?_
    rw [HTE.out]
    exact ⟨rfl, HM.out⟩
  · have hr2 : (x.role == 3) = false := by rw [beq_eq_false_iff_ne]; exact hr
    have HTE := Lib.hid (show tickF x dr = if x.term < 1099511627776 ∧ x.el + max dr 0 % x.el ≤ x.since + 1 then askF { x with since := x.since + 1 } else { x with since := x.since + 1 } from if_neg hr)
    clear HTL
    by_cases ht : x.term < 1099511627776
    · have hel1 : ¬ x.el = 0 := by have := HX.out; omega
      have hel2 : ¬ x.el = -1 := by have := HX.out; omega
      have HAK2 := Lib.hid (HAK.out ht)
      clear HAK
      go_upto_region 5 with (fail)
      go_cut [44] (fun v wx => v = .bool (decide (x.el + max dr 0 % x.el ≤ x.since + 1)) ∧ Below w3.heap.size w3 wx)
      case first =>
        go_region
        all_goals
          go_wp2_with fail
          go_meet
          have hm0 : 0 ≤ max dr 0 % x.el := Int.emod_nonneg _ hel1
          have hm1 : max dr 0 % x.el < x.el := Int.emod_lt_of_pos _ HX.out.1
          have hw2 : wrap64 (x.el + max dr 0 % x.el) = x.el + max dr 0 % x.el := wr_64 (by have := HX.out; omega) (by have := HX.out; omega)
          rw [hw2]
          exact ⟨rfl, (Below.refl _ _).drew⟩
      case rest =>
        obtain ⟨rfl, hb1⟩ := hcut
        have HB1 := Lib.hid hb1
        clear hb1 c2 c4 c8 c10 hel1 hel2
        by_cases hz : x.el + max dr 0 % x.el ≤ x.since + 1
        · have hzd : decide (x.el + max dr 0 % x.el ≤ x.since + 1) = true := decide_eq_true hz
          have HLE := Lib.hid (HTE.out.trans (if_pos ⟨ht, hz⟩))
          rw [hzd]
          clear hz hzd HTE
          go_wp2_with fail
          refine (HAK2.out _ HB1.out).mono ?_
          rintro e w4 ⟨rfl, hm⟩
          have HM := Lib.hid (NMoves.trans (HT1.out.on HB1.out) (fun _ hk => .inl hk) hm)
          clear hm
          go_wp2_with fail
          go_end0
          rw [HLE.out]
          exact ⟨rfl, HM.out⟩
        · have hzd : decide (x.el + max dr 0 % x.el ≤ x.since + 1) = false := decide_eq_false hz
          have HLE := Lib.hid (HTE.out.trans (if_neg (fun h => hz h.2)))
          rw [hzd]
          clear hz hzd HTE
          go_wp2_with fail
          go_end0
          rw [HLE.out]
          exact ⟨rfl, NMoves.trans (HT1.out.on HB1.out) (fun _ hk => .inl hk) (NMoves.same (HNA.out.on HB1.out))⟩
    · have HLE := Lib.hid (HTE.out.trans (if_neg (fun h => ht h.1)))
      clear HTE HAK
      have hdt : decide (x.term < 1099511627776) = false := decide_eq_false ht
      have hdt2 : ¬ x.term < 1099511627776 := ht
      go_upto_region 5 with (fail)
      go_cut [44] (fun v wx => v = .bool false ∧ Below w3.heap.size w3 wx)
      case first =>
        go_region
        all_goals
          go_wp2_with fail
          go_meet
          exact ⟨rfl, (Below.refl _ _).drew⟩
      case rest =>
        obtain ⟨rfl, hb1⟩ := hcut
        have HB1 := Lib.hid hb1
        clear hb1 c2 c4 c8 c10
        go_wp2_with fail
        go_end0
        rw [HLE.out]
        exact ⟨rfl, NMoves.trans (HT1.out.on HB1.out) (fun _ hk => .inl hk) (NMoves.same (HNA.out.on HB1.out))⟩
end Go.Proofs.Ytlggkeoihpcdiaa

/- The walk of package raft's Propose. -/
namespace Go.Proofs.Ytlggkeoihpcdiaa
open Go.RowKit

def proposeF (x : NodeM) (s : ByteArray) : NodeM × Nat × Nat :=
  if x.role ≠ 3 then (x, 0, 13)
  else if 512 < s.size then (x, 0, 4)
  else if (addN x s).2 ≠ 0 then ((addN x s).1, 0, (addN x s).2)
  else (sendAllF (addN x s).1, (addN x s).1.log.length, 0)

set_option maxRecDepth 100000 in
set_option maxHeartbeats 1600000 in
/-- (*raft.Node).Propose -/
theorem propose_any (base g : Nat) (x : NodeM) (s : ByteArray) (S : Nat → Prop) (w : World) (h : NodeAt w base g x S) (hn0 : 0 < x.n) (hn7 : x.n ≤ 7) (hid0 : 0 ≤ x.id) (hid : x.id < x.n) (hl : x.log.length ≤ 1048000) (hB : base ≤ w.heap.size) (ho : x.out.length ≤ 999980) (hpl : x.role = 3 → (x.peers.length : Int) = x.n) (hpn : x.role = 3 → ∀ p ∈ x.peers, 1 ≤ p.next ∧ p.next ≤ 1099511627776) :
    Calls Try.prog 32 #[.pointer (some ⟨g, 0, none⟩), .string s] w fun e w' => e = .returned (.tuple #[.int .i64 ((proposeF x s).2.1 : Int), .int .i64 ((proposeF x s).2.2 : Int)]) ∧ NMoves w base g S (proposeF x s).1 w' := by
  obtain ⟨L, hL, hS⟩ := h.cell
  obtain ⟨_, _, ⟨c8, _, _, _⟩, _⟩ := hL.cells
  have HMA := Lib.hid (made_any base g x S w h hn0)
  have H := Lib.hid h
  by_cases hr : x.role = 3
  · by_cases hs : 512 < s.size
    · have HPF := Lib.hid (show proposeF x s = (x, 0, 4) by unfold proposeF; rw [if_neg (fun h => h hr), if_pos hs])
      have hs1 : (512 : Int) < (s.size : Int) := by omega
      rw [hr] at c8
      clear hL hS h hn0 hn7 hid0 hid hl hB ho hpl hpn hr hs
      go_enter Try.func32, Try.ntmps32
      go_wp2_with (first | (refine HMA.out.mono ?_; rintro e w2 ⟨rfl, rfl⟩))
      go_ret2
      rw [HPF.out]
      exact ⟨rfl, NMoves.same H.out⟩
    · have hs1 : ¬ (512 : Int) < (s.size : Int) := by omega
      have HPF := Lib.hid (show proposeF x s = if (addN x s).2 ≠ 0 then ((addN x s).1, 0, (addN x s).2) else (sendAllF (addN x s).1, (addN x s).1.log.length, 0) by unfold proposeF; rw [if_neg (fun h => h hr), if_neg hs])
      have HAD := Lib.hid (add_any base g x s S w h hn0 hn7 hid0 hid (hpl hr) hl hB)
      have has := addN_same x s
      obtain ⟨a, ha⟩ : ∃ a, a = addN x s := ⟨_, rfl⟩
      rw [← ha] at has HAD HPF
      obtain ⟨a, r⟩ := a
      simp only at has HAD HPF
      have HPN := Lib.hid (show ∀ p ∈ a.peers, 1 ≤ p.next ∧ p.next ≤ 1099511627776 by rw [has.peers]; exact hpn hr)
      have HAS := Lib.hid (show 0 < a.n ∧ a.n ≤ 7 ∧ a.log.length ≤ 1048001 ∧ a.out.length ≤ 999980 ∧ a.n ≤ a.peers.length from ⟨by rw [has.n]; exact hn0, by rw [has.n]; exact hn7, by have := has.log; omega, by rw [has.out]; exact ho, by rw [has.n, has.peers, hpl hr]; exact Int.le_refl _⟩)
      have HB := Lib.hid hB
      rw [hr] at c8
      clear hL hS h hn0 hn7 hid0 hid hl hB ho hpl hpn hr hs ha has
      go_enter Try.func32, Try.ntmps32
      go_wp2_with (first | (refine HMA.out.mono ?_; rintro e w2 ⟨rfl, rfl⟩))
      refine HAD.out.mono ?_
      rintro e w3 ⟨rfl, S3, hna3, htu3, hsu3⟩
      have HTU := Lib.hid htu3
      have HSU := Lib.hid hsu3
      have HNA := Lib.hid hna3
      by_cases hf : r = 0
      · subst hf
        have hle := HPF.out
        rw [if_neg (by simp)] at hle
        have HLF := Lib.hid hle
        have HSA := Lib.hid (sendAll_any base g a S3 w3 hna3 HAS.out.1 HAS.out.2.1 (by have := HAS.out; omega) (Nat.le_trans HB.out htu3.size) (by have := HAS.out; omega) HAS.out.2.2.2.2 HPN.out)
        clear hle HPF hna3 htu3 hsu3 c8 HMA HAD
        go_wp2_with fail
        refine HSA.out.mono ?_
        rintro e w4 ⟨rfl, S4, hna4, htu4, hsu4⟩
        obtain ⟨ht4, hs4⟩ := NMoves.and HTU.out HSU.out htu4 hsu4
        obtain ⟨o, hao, _⟩ := sendAllF_told a
        have hlg : (sendAllF a).log = a.log := by rw [hao]
        have hln : (sendAllF a).n = a.n := by rw [hao]
        have HLA := Lib.hid (nLast_any base g (sendAllF a) S4 w4 hna4 (by rw [hln]; exact HAS.out.1) (by rw [hlg]; have := HAS.out; omega))
        rw [hlg] at HLA
        have HM := Lib.hid (NMoves.trans ht4 hs4 (NMoves.same hna4))
        clear hao hlg hln hna4 htu4 hsu4 ht4 hs4 HSA
        go_wp2_with fail
        refine HLA.out.mono ?_
        rintro e w5 ⟨rfl, rfl⟩
        go_wp2_with fail
        go_ret2
        rw [HLF.out]
        exact ⟨rfl, HM.out⟩
      · have hle := HPF.out
        rw [if_pos hf] at hle
        have HLF := Lib.hid hle
        have hf1 : ¬ (r : Int) = 0 := by omega
        have hf2 : ((r : Int) != 0) = true := bne_iff_ne.2 hf1
        clear hle HPF hna3 htu3 hsu3 c8 HMA HAD hf
        go_wp2_with fail
        go_ret2
        rw [HLF.out]
        exact ⟨rfl, NMoves.trans HTU.out HSU.out (NMoves.same HNA.out)⟩
  · have hr2 : (x.role != 3) = true := bne_iff_ne.2 hr
    have HPF := Lib.hid (show proposeF x s = (x, 0, 13) from if_pos hr)
    clear hL hS h hn0 hn7 hid0 hid hl hB ho hpl hpn
    go_enter Try.func32, Try.ntmps32
    go_wp2_with (first | (refine HMA.out.mono ?_; rintro e w2 ⟨rfl, rfl⟩))
    go_ret2
    rw [HPF.out]
    exact ⟨rfl, NMoves.same H.out⟩
end Go.Proofs.Ytlggkeoihpcdiaa
