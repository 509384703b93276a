/- Package route: Split and Join. -/
import Derived.Test.YtgioaapflilhhabRtI
import Derived.Test.YtgioaapflilhhabRt4
import Derived.Test.YtgioaapflilhhabNs2
namespace Go.Proofs.Ytgioaapflilhhab
open Go.RowKit

/-- a split that is put in, a shard that is joined -/
def putS (l : List ByteArray) (key : ByteArray) : List ByteArray := l.take (lowN l key) ++ key :: l.drop (lowN l key)

set_option maxHeartbeats 400000 in
theorem split_bad (g : Nat) (key : ByteArray) (w : World) (hb : badS key = true) :
    Calls Try.prog 17 #[.pointer (some ⟨g, 0, none⟩), .string key] w fun e w' => e = .returned (.tuple #[.pointer none, .int .i64 1]) ∧ w' = w := by
  have HM := Lib.hid (mayBe_no key w hb)
  clear hb
  go_enter Try.func17, Try.ntmps17
  go_wp2_with fail
  refine HM.out.mono ?_
  rintro e w' ⟨rfl, rfl⟩
  go_wp2_with fail
  go_ret2
  exact ⟨rfl, rfl⟩

set_option maxHeartbeats 800000 in
theorem split_is (g : Nat) (l : List ByteArray) (key : ByteArray) (w : World) (h : MapAt w g l) (hr : rightF l = 0) (hb : badS key = false) (hk : hasS l key = true) :
    Calls Try.prog 17 #[.pointer (some ⟨g, 0, none⟩), .string key] w fun e w' => e = .returned (.tuple #[.pointer none, .int .i64 8]) ∧ Below w.heap.size w w' := by
  obtain ⟨hlen, _, hri⟩ := rightF_zero hr
  obtain ⟨A, c, h1, h2⟩ := h
  have c0 : w.cell? ⟨g, 0, none⟩ = some (.slice A l.length c) := by rw [h1.cell]; rfl
  have HM := Lib.hid (mayBe_yes key w hb)
  have HQ := search_any A l.length c l key w _ h2 hri (by omega)
  rw [hk] at HQ
  have HQ := Lib.hid HQ
  clear hb hk h1 h2 hr hri hlen
  go_enter Try.func17, Try.ntmps17
  go_wp2_with fail
  refine HM.out.mono ?_
  rintro e w' ⟨rfl, rfl⟩
  go_wp2_with fail
  refine HQ.out.mono ?_
  rintro e w1 ⟨rfl, q, rfl⟩
  go_wp2_with fail
  go_ret2
  exact ⟨rfl, below_drewN (Below.refl _ _) q⟩

set_option maxRecDepth 100000 in
set_option maxHeartbeats 1600000 in
theorem split_any (g : Nat) (l : List ByteArray) (key : ByteArray) (w : World) (h : MapAt w g l) (hr : rightF l = 0) (hb : badS key = false) (hk : hasS l key = false) :
    Calls Try.prog 17 #[.pointer (some ⟨g, 0, none⟩), .string key] w (NewRet w (putS l key)) := by
  obtain ⟨hlen, _, hri⟩ := rightF_zero hr
  have HMA := Lib.hid h
  obtain ⟨A, c, h1, h2⟩ := h
  have c0 : w.cell? ⟨g, 0, none⟩ = some (.slice A l.length c) := by rw [h1.cell]; rfl
  have HM := Lib.hid (mayBe_yes key w hb)
  have HQ := search_any A l.length c l key w _ h2 hri (by omega)
  rw [hk] at HQ
  have hle := lowN_le l key
  have HPL : putS l key = l.take (lowN l key) ++ key :: l.drop (lowN l key) := rfl
  have HPN : (putS l key).length = l.length + 1 := by
    have := ins_len l (lowN l key) key hle
    rwa [txs_length] at this
  generalize putS l key = P at *
  generalize lowN l key = I at *
  have HQ := Lib.hid HQ
  have HPL := Lib.hid HPL
  have HPN := Lib.hid HPN
  have HLE := Lib.hid hle
  have HLN := Lib.hid hlen
  clear hb hk h1 h2 hr hri hlen hle
  go_enter Try.func17, Try.ntmps17
  go_wp2_with fail
  refine HM.out.mono ?_
  rintro e w' ⟨rfl, rfl⟩
  go_wp2_with fail
  refine HQ.out.mono ?_
  rintro e w1 ⟨rfl, hw1⟩
  have HB1 := Lib.hid (show Below w'.heap.size w' w1 by obtain ⟨q, rfl⟩ := hw1; exact below_drewN (Below.refl _ _) q)
  have HM1 := Lib.hid (HMA.out.on HB1.out)
  clear hw1 c0
  go_wp2_with fail
  refine (splits_any g l w1 HM1.out HLN.out).mono ?_
  rintro e w2 ⟨A2, c2, rfl, hf2, hb2⟩
  have HB2 := Lib.hid (HB1.out.trans (hb2.mono HB1.out.size))
  have HF2 := Lib.hid hf2
  have HZ2 := Lib.hid hb2.size
  clear hf2 hb2
  have HI := Lib.hid (insert_any w1.heap.size A2 l.length c2 l I w2.heap.size key (w2.alloc (.cells #[.string key] 9)) (HF2.out.on ((Below.refl _ _).alloc (Nat.le_refl _) _)) HLE.out (Blk.new w2 _ _)
    (fun e => by obtain ⟨_, cur, hB⟩ := HF2.out.foot_at _ e; have := hB.lt; omega) (by have := HLN.out; omega) (Nat.le_trans HZ2.out (by simp)))
  go_wp2_with fail
  refine HI.out.mono ?_
  rintro e w3 ⟨A3, c3, rfl, hf3, hb3⟩
  have HB3 := Lib.hid (show Below w'.heap.size w' w3 from (HB2.out.alloc HB2.out.size (.cells #[.string key] 9)).trans (hb3.mono HB1.out.size))
  have hs3 := hf3.sees
  rw [Nat.mul_one, ← HPL.out, ← HPN.out] at hs3
  have hn3 := new_any A3 P.length c3 P w3 hs3 (by rw [HPN.out]; have := HLN.out; unfold maxLen; omega)
  rw [HPN.out] at hn3
  have HN := Lib.hid hn3
  clear hf3 hb3 hs3 hn3
  go_wp2_with fail
  refine HN.out.mono ?_
  rintro e w4 ⟨h0, h1, hb4⟩
  have HB4 := Lib.hid (HB3.out.trans (hb4.mono HB3.out.size))
  by_cases hR : rightF P = 0
  · obtain ⟨g4, rfl, hm4, hg4⟩ := h0 hR
    have HR := Lib.hid hR
    have HM4 := Lib.hid hm4
    have HG4 := Lib.hid hg4
    clear h0 h1 hb4 hR hm4 hg4
    go_wp2_with fail
    go_ret2
    exact ⟨fun _ => ⟨g4, rfl, HM4.out, Nat.le_trans HB3.out.size HG4.out⟩, fun h => absurd HR.out h, HB4.out⟩
  · have he := h1 hR
    obtain ⟨R, hRe⟩ : ∃ R, rightF P = R := ⟨_, rfl⟩
    rw [hRe] at he hR
    subst he
    have HR := Lib.hid hR
    have HRE := Lib.hid hRe
    clear h0 h1 hb4 hR hRe
    go_wp2_with fail
    go_ret2
    exact NewRet.bad HRE.out HR.out HB4.out

set_option maxRecDepth 100000 in
set_option maxHeartbeats 1600000 in
theorem join_any (g : Nat) (l : List ByteArray) (i : Nat) (w : World) (h : MapAt w g l) (hlen : l.length ≤ 7) (hi : i < l.length) :
    Calls Try.prog 18 #[.pointer (some ⟨g, 0, none⟩), .int .i64 (i : Int)] w (NewRet w (l.eraseIdx i)) := by
  have HMA := Lib.hid h
  obtain ⟨A, c, h1, h2⟩ := h
  have c0 : w.cell? ⟨g, 0, none⟩ = some (.slice A l.length c) := by rw [h1.cell]; rfl
  have HPL := Lib.hid (show (txs l).take i ++ (txs l).drop (i + 1) = txs (l.eraseIdx i) by rw [← txs_take, ← txs_drop, ← txs_append, ← List.eraseIdx_eq_take_drop_succ])
  have HPN := Lib.hid (show (l.eraseIdx i).length = i + (l.length - (i + 1)) by rw [List.length_eraseIdx, if_pos hi]; omega)
  generalize l.eraseIdx i = P at *
  have hg0 : ¬ (i : Int) < 0 := by omega
  have hg1 : ¬ (l.length : Int) ≤ (i : Int) := by omega
  have hw1 : IntKind.i64.wrap ((i : Int) + 1) = (i : Int) + 1 := by rw [IntKind.wrap_i64]; omega
  have hc1 : (i : Int) + 1 = ((i + 1 : Nat) : Int) := by omega
  have HI := Lib.hid hi
  have HLN := Lib.hid hlen
  have hib : (i : Int) ≤ 8 := by omega
  clear h1 h2 hi hlen
  go_enter Try.func18, Try.ntmps18
  go_wp2_with fail
  refine (splits_any g l w HMA.out HLN.out).mono ?_
  rintro e w2 ⟨A2, c2, rfl, hf2, hb2⟩
  have HB2 := Lib.hid hb2
  have HF2 := Lib.hid hf2
  have hd := sDelete_any w.heap.size A2 l.length c2 i (i + 1) (txs l) w2 hf2 (txs_one l) (by omega) (by have := HI.out; omega)
  rw [← hc1, HPL.out, ← HPN.out] at hd
  have HD := Lib.hid hd
  clear hf2 hb2 hd c0 hc1
  go_wp2_with fail
  refine HD.out.mono ?_
  rintro e w3 ⟨rfl, hf3, hg3⟩
  have HB3 := Lib.hid (show Below w.heap.size w w3 from HB2.out.grown hg3 HB2.out.size (fun k hk => (HF2.out.foot_at k hk).1))
  have hs3 := hf3.sees
  rw [Nat.mul_one] at hs3
  have HN := Lib.hid (new_any A2 P.length c2 P w3 hs3 (by rw [HPN.out]; have := HLN.out; unfold maxLen; omega))
  clear hf3 hg3 hs3
  go_wp2_with fail
  refine HN.out.mono ?_
  rintro e w4 ⟨h0, h1, hb4⟩
  have HB4 := Lib.hid (HB3.out.trans (hb4.mono HB3.out.size))
  by_cases hR : rightF P = 0
  · obtain ⟨g4, rfl, hm4, hg4⟩ := h0 hR
    have HR := Lib.hid hR
    have HM4 := Lib.hid hm4
    have HG4 := Lib.hid hg4
    clear h0 h1 hb4 hR hm4 hg4
    go_wp2_with fail
    go_ret2
    exact ⟨fun _ => ⟨g4, rfl, HM4.out, Nat.le_trans HB3.out.size HG4.out⟩, fun h => absurd HR.out h, HB4.out⟩
  · have he := h1 hR
    obtain ⟨R, hRe⟩ : ∃ R, rightF P = R := ⟨_, rfl⟩
    rw [hRe] at he hR
    subst he
    have HR := Lib.hid hR
    have HRE := Lib.hid hRe
    clear h0 h1 hb4 hR hRe
    go_wp2_with fail
    go_ret2
    exact NewRet.bad HRE.out HR.out HB4.out
end Go.Proofs.Ytgioaapflilhhab
