/- Plain facts of a node alone: behind its timeout it leads, and commits whatever is proposed at once. -/
import Derived.Test.YtlggkeoihpcdiaaJ9
import Derived.Test.YtlggkeoihpcdiaaJ10
import Derived.Test.YtlggkeoihpcdiaaJ11
import Derived.Test.YtlggkeoihpcdiaaJ12
namespace Go.Proofs.Ytlggkeoihpcdiaa
open Go.RowKit

theorem mostHas_one (x : NodeM) (h1 : x.n = 1) (h2 : x.id = 0) : mostHas x = x.log.length := by
  unfold mostHas hasK
  rw [h1, h2]
  simp [List.range_succ]
/-- alone, not yet leading, behind k ticks -/
def aloneF (e : Int) (k : Int) : NodeM := ⟨0, 1, e, 1, 0, -1, [], 0, 0, -1, k, 0, 0, [], [], false, 0⟩
/-- alone, and leading; what is in its log -/
def leadsF (e : Int) (l : List Ent) : NodeM := ⟨0, 1, e, 1, 1, 0, l, l.length, 3, 0, 0, 1, 1, [⟨0, 1⟩], [], true, 1⟩
theorem alone_new (e : Int) : newF 0 1 e 1 ⟨0, -1, []⟩ = aloneF e 0 := rfl
theorem askAll_one (x : NodeM) (h1 : x.n = 1) (h2 : x.id = 0) (a b : Int) : askAllF x a b = x := by
  unfold askAllF
  rw [h1]
  simp [List.range_succ, askStep, h2]
theorem sendAll_one (x : NodeM) (h1 : x.n = 1) (h2 : x.id = 0) : sendAllF x = x := by
  unfold sendAllF
  rw [h1]
  simp [List.range_succ, sendStep, h2]
theorem addN_one (v : NodeM) (s : ByteArray) (es : List Ent) (hes : es = v.log ++ [(⟨v.term, s⟩ : Ent)]) (h1 : v.n = 1) (h2 : v.id = 0) (ht : lastT v.log ≤ v.term) (hl : v.log.length < 1024) (hc : v.commit = v.log.length) :
    addN v s = ({ unsavedF { v with log := es } (es.length : Int) with commit := (v.log.length : Int) + 1 }, 0) := by
  have hadd : addF v.log ⟨v.term, s⟩ = (es, 0) := by
    unfold addF
    rw [if_neg (by simp only; omega), if_neg (by omega), hes]
  unfold addN
  rw [hadd, if_neg (by simp)]
  simp only
  obtain ⟨u1, u2, u3, u4⟩ := unsavedF_same { v with log := es } (es.length : Int)
  obtain ⟨_, u5⟩ := unsavedF_more { v with log := es } (es.length : Int)
  have u6 : (unsavedF { v with log := es } (es.length : Int)).commit = v.commit := by
    unfold unsavedF
    split <;> rfl
  generalize unsavedF { v with log := es } (es.length : Int) = y at *
  simp only at u1 u2 u4 u5
  have hm : mostHas y = (v.log.length : Int) + 1 := by
    rw [mostHas_one y (by rw [u2, h1]) (by rw [u1, h2]), u4, hes]
    simp
  have htm : (termF y.log ((v.log.length : Int) + 1)).1 = y.term := by
    rw [u4, u5, termF_at (by rw [hes]; simp)]
    simp [hes]
  unfold commitF
  rw [hm, if_neg (by rw [u6, hc, htm]; intro h9; rcases h9 with h9 | h9; omega; exact h9 rfl)]
theorem leadF_of (x a : NodeM) (ha : addN { x with role := 3, leader := x.id, since := 0, heard := 2 ^ x.id.toNat, peers := List.replicate x.n.toNat ⟨0, x.log.length + 1⟩ } ⟨#[]⟩ = (a, 0)) : leadF x = sendAllF a := by
  unfold leadF
  simp only [ha]
  rw [if_neg (by simp)]
theorem lastT_ones (l : List Ent) (h : ∀ e ∈ l, e.t = 1) : lastT l ≤ 1 := by
  unfold lastT
  rcases Nat.eq_zero_or_pos l.length with h0 | h0
  · rw [List.eq_nil_of_length_eq_zero h0]
    decide
  · obtain ⟨k, hk⟩ : ∃ k, l.length = k + 1 := ⟨l.length - 1, by omega⟩
    have hkl : k < l.length := by omega
    have := termF_at (es := l) hkl
    rw [hk]
    push_cast
    rw [this, h _ (List.getElem_mem hkl)]
    decide
theorem alone_wait (e d k : Int) (h : ¬ (e + max d 0 % e ≤ k + 1)) : tickF (aloneF e k) d = aloneF e (k + 1) := by
  unfold tickF
  rw [if_neg (show ¬ (aloneF e k).role = 3 from (show ¬ (0 : Int) = 3 from by omega)), if_neg (fun h9 => h h9.2)]
  rfl
theorem alone_lead (e d k : Int) (h : e + max d 0 % e ≤ k + 1) : tickF (aloneF e k) d = leadsF e [⟨1, ⟨#[]⟩⟩] := by
  unfold tickF
  rw [if_neg (show ¬ (aloneF e k).role = 3 from (show ¬ (0 : Int) = 3 from by omega)), if_pos ⟨(show (0 : Int) < 1099511627776 from by omega), h⟩]
  have hm1 : ∀ x : NodeM, x.n = 1 → mostF x (0 ||| 2 ^ 0) = true := fun x hx => by unfold mostF; rw [hx]; decide
  show hear1F (askAllF ⟨0, 1, e, 1, 0, -1, [], 0, 1, -1, 0, 0, 0, [], [], false, 0⟩ 1 1) 0 = _
  rw [askAll_one _ rfl rfl]
  unfold hear1F
  rw [if_pos (hm1 _ rfl)]
  show standF ⟨0, 1, e, 1, 0, -1, [], 0, 1, -1, 0, 1, 0, [], [], false, 0⟩ = _
  show hear2F (askAllF ⟨0, 1, e, 1, 1, 0, [], 0, 2, -1, 0, 0, 0, [], [], true, 0⟩ 3 1) 0 = _
  rw [askAll_one _ rfl rfl]
  unfold hear2F
  rw [if_pos (hm1 _ rfl)]
  rw [show heardF ⟨0, 1, e, 1, 1, 0, [], 0, 2, -1, 0, 0, 0, [], [], true, 0⟩ 0 = ⟨0, 1, e, 1, 1, 0, [], 0, 2, -1, 0, 1, 0, [], [], true, 0⟩ from by simp [heardF]]
  have hv : (⟨0, 1, e, 1, 1, 0, [], 0, 3, 0, 0, 1, 2 ^ (0 : Int).toNat, List.replicate (1 : Int).toNat ⟨0, (([] : List Ent).length : Int) + 1⟩, [], true, 0⟩ : NodeM) = ⟨0, 1, e, 1, 1, 0, [], 0, 3, 0, 0, 1, 1, [⟨0, 1⟩], [], true, 0⟩ := by simp
  rw [leadF_of ⟨0, 1, e, 1, 1, 0, [], 0, 2, -1, 0, 1, 0, [], [], true, 0⟩ (leadsF e [⟨1, ⟨#[]⟩⟩]) (by
    simp only
    rw [hv, addN_one ⟨0, 1, e, 1, 1, 0, [], 0, 3, 0, 0, 1, 1, [⟨0, 1⟩], [], true, 0⟩ ⟨#[]⟩ [⟨1, ⟨#[]⟩⟩] rfl rfl rfl (show lastT [] ≤ 1 by decide) (show ([] : List Ent).length < 1024 by decide) rfl]
    simp [unsavedF, leadsF]), sendAll_one _ rfl rfl]
/-- what is proposed is committed at once -/
theorem alone_propose (e : Int) (l : List Ent) (s : ByteArray) (h : ∀ e ∈ l, e.t = 1) (h0 : 0 < l.length) (hl : l.length < 1024) (hs : s.size ≤ 512) : proposeF (leadsF e l) s = (leadsF e (l ++ [⟨1, s⟩]), l.length + 1, 0) := by
  have ha := addN_one (leadsF e l) s (l ++ [⟨1, s⟩]) rfl rfl rfl (lastT_ones l h) hl rfl
  have hu : unsavedF { leadsF e l with log := l ++ [⟨1, s⟩] } ((l ++ [(⟨1, s⟩ : Ent)]).length : Int) = { leadsF e l with log := l ++ [⟨1, s⟩] } := by
    unfold unsavedF
    rw [if_neg]
    rintro ⟨_, h9 | h9⟩
    · have h8 : (1 : Int) = 0 := h9
      omega
    · have h8 : ((l ++ [(⟨1, s⟩ : Ent)]).length : Int) < 1 := h9
      simp at h8
      omega
  rw [hu] at ha
  have e1 : ({ ({ leadsF e l with log := l ++ [⟨1, s⟩] } : NodeM) with commit := (((leadsF e l).log.length : Nat) : Int) + 1 } : NodeM) = leadsF e (l ++ [⟨1, s⟩]) := by
    simp [leadsF]
  rw [e1] at ha
  unfold proposeF
  rw [if_neg (show ¬ (leadsF e l).role ≠ 3 from fun h => h rfl), if_neg (by omega), ha, if_neg (by simp)]
  simp only
  rw [sendAll_one _ rfl rfl]
  simp [leadsF]
end Go.Proofs.Ytlggkeoihpcdiaa

/- The fixed facts at the head of layer 8's statements: they hold, whatever the world. -/
namespace Go.Proofs.Ytlggkeoihpcdiaa
open Go.RowKit

theorem NMoves.step {w0 w w' : World} {B base g : Nat} {x x' : NodeM} {S : Nat → Prop} (hB0 : B ≤ w0.heap.size) (hb : Below B w0 w) (h : NodeAt w base g x S) (hB : B ≤ base) (m : NMoves w base g S x' w') : ∃ S', NodeAt w' base g x' S' ∧ Below B w0 w' := by
  obtain ⟨S', h1, h2, _⟩ := m
  exact ⟨S', h1, hb.trans (h2.below (Nat.le_trans hB0 hb.size) (fun k hk => Nat.le_trans hB (h.base_has k hk)))⟩

def fl8 : List Ent := [⟨1, ⟨#[]⟩⟩, ⟨1, ⟨#[104, 105]⟩⟩]
theorem fx8_t1 : tickF (newF 0 1 2 1 ⟨0, -1, []⟩) 0 = aloneF 2 1 := alone_wait 2 0 0 (by decide)
theorem fx8_t2 : tickF (aloneF 2 1) 0 = leadsF 2 [⟨1, ⟨#[]⟩⟩] := alone_lead 2 0 1 (by decide)
theorem fx8_p : proposeF (leadsF 2 [⟨1, ⟨#[]⟩⟩]) ⟨#[104, 105]⟩ = (leadsF 2 fl8, 2, 0) := alone_propose 2 [⟨1, ⟨#[]⟩⟩] ⟨#[104, 105]⟩ (by simp) (by decide) (by decide) (by decide)
theorem fx8_e : saveEs (leadsF 2 fl8) = fl8 := by rfl
theorem fx8_e2 : saveEs (savedF (leadsF 2 fl8)) = [] := by rfl
theorem fx8_c : committedF (savedF (savedF (leadsF 2 fl8))) 2 = [⟨1, ⟨#[104, 105]⟩⟩] := by rfl
def fm8 : MsgM := ⟨3, 0, 1, 4, 0, 0, 0, false, []⟩
def fy8 : NodeM := ⟨1, 3, 5, 1, 4, 0, [], 0, 0, -1, 0, 0, 0, [], [⟨4, 1, 0, 4, 0, 0, 0, true, []⟩], true, 0⟩
theorem fx8_y : step3F (newF 1 3 5 1 ⟨0, -1, []⟩) fm8 = fy8 := by rfl
theorem fx8_q : proposeF { fy8 with out := [] } ⟨#[120]⟩ = ({ fy8 with out := [] }, 0, 13) := by rfl

theorem Turn.cell {S : Nat → Prop} {a w : World} {p : Addr} (h : Turn S a w) (hb : p.block < a.heap.size) (hn : ¬ S p.block) : w.cell? p = a.cell? p := World.cell?_of_block (w := a) (h.block _ hb hn)
theorem fx8_s1 {w w' : World} {base g : Nat} {S : Nat → Prop} {e : Ending} (h : SaveRet w base g (leadsF 2 fl8) S e w') : ∃ A c, e = .returned (.tuple #[.agg #[.bool true, .int .i64 1, .int .i64 0, .int .i64 1, .slice A 2 c], .bool true]) ∧ NodeAt w' base g (savedF (leadsF 2 fl8)) S ∧ Turn S w w' := by
  obtain ⟨A, c, h1, _, h3, h4⟩ := h
  exact ⟨A, c, h1, h3, h4⟩
theorem fx8_s2 {w w' : World} {base g : Nat} {S : Nat → Prop} {e : Ending} (h : SaveRet w base g (savedF (leadsF 2 fl8)) S e w') : ∃ A c, e = .returned (.tuple #[.agg #[.bool false, .int .i64 0, .int .i64 0, .int .i64 0, .slice A 0 c], .bool false]) ∧ NodeAt w' base g (savedF (savedF (leadsF 2 fl8))) S ∧ Turn S w w' := by
  obtain ⟨A, c, h1, _, h3, h4⟩ := h
  exact ⟨A, c, h1, h3, h4⟩
theorem fx8_o {w w' : World} {base g : Nat} {S : Nat → Prop} {e : Ending} (h : OutRet w base g fy8 S e w') : ∃ A c b off S', e = .returned (.slice A 1 c) ∧ A = some ⟨b, off, none⟩ ∧ b < w'.heap.size ∧ ¬ S' b ∧ w'.cell? ⟨b, off + 7, none⟩ = some (.bool true) ∧ NodeAt w' base g { fy8 with out := [] } S' ∧ Turn S w w' := by
  obtain ⟨A, c, ml, S', h1, h2, h3, _, h5, h6, _, h8⟩ := h
  match ml, h1, h2, h3 with
  | [y], h1, h2, h3 =>
    obtain ⟨b, off, hA, hb, hc⟩ := h3.sees.2 (by simp)
    have hy : y.m = ⟨4, 1, 0, 4, 0, 0, 0, true, []⟩ := by
      have h9 : [y.m] = [(⟨4, 1, 0, 4, 0, 0, 0, true, []⟩ : MsgM)] := h2
      injection h9
    have hcap : 0 < c := Nat.lt_of_lt_of_le (by decide : 0 < 1) h3.2.1
    refine ⟨A, c, b, off, S', h1, hA, hb, h8 b (by unfold foot; rw [if_pos hcap, hA]; rfl), ?_, h5, h6⟩
    have h7 := hc 7 (.bool y.m.yes) (by simp [mcs, MsgL.cells])
    rw [h7, hy]
  | [], h1, h2, h3 => simp [fy8] at h2
  | _ :: _ :: _, h1, h2, h3 => simp [fy8] at h2

set_option maxRecDepth 100000 in
set_option maxHeartbeats 1600000 in
theorem fixed8_any (w : World) :
    Calls Try.prog 26 #[] w fun e w' => e = .returned (.bool true) ∧ Below w.heap.size w w' := by
  go_enter Try.func26, Try.ntmps26
  go_wp2_with fail
  refine (nNew_any 0 1 2 1 ⟨0, -1, []⟩ none 0 0 w (Ents.nil _ _ _) rfl (by omega) (by decide) (by decide) (by decide) (by decide) (by decide)).mono ?_
  rintro e w1 ⟨g, S1, rfl, hx1, hb1⟩
  have HR := Lib.hid (Nat.le_refl w.heap.size)
  go_wp2_with fail
  refine (tick_any _ g _ 0 S1 w1 hx1 (by decide) (by decide) (by decide) (by decide) (by decide) (by decide) (by decide) (by decide) (by decide) (by decide) (by decide) (by decide) hb1.size (by decide) (by decide) (by decide)).mono ?_
  rintro e w2 ⟨rfl, hm⟩
  rw [fx8_t1] at hm
  obtain ⟨S2, hx2, hb2⟩ := hm.step HR.out hb1 hx1 HR.out
  clear hm hx1 hb1
  have hR := Lib.hid (nRole_any _ g _ S2 w2 hx2 (by decide))
  go_wp2_with fail
  refine hR.out.mono ?_
  rintro e w3 ⟨rfl, rfl⟩
  clear hR
  go_wp2_with fail
  refine (tick_any _ g _ 0 S2 w3 hx2 (by decide) (by decide) (by decide) (by decide) (by decide) (by decide) (by decide) (by decide) (by decide) (by decide) (by decide) (by decide) hb2.size (by decide) (by decide) (by decide)).mono ?_
  rintro e w4 ⟨rfl, hm⟩
  rw [fx8_t2] at hm
  obtain ⟨S4, hx4, hb4⟩ := hm.step HR.out hb2 hx2 HR.out
  clear hm hx2 hb2
  go_wp2_with fail
  refine (propose_any _ g _ ⟨#[104, 105]⟩ S4 w4 hx4 (by decide) (by decide) (by decide) (by decide) (by decide) hb4.size (by decide) (by decide) (by decide)).mono ?_
  rintro e w5 ⟨rfl, hm⟩
  rw [fx8_p] at hm ⊢
  obtain ⟨S5, hx5, hb5⟩ := hm.step HR.out hb4 hx4 HR.out
  clear hm hx4 hb4
  go_wp2_with fail
  refine (nSave_any _ g _ S5 w5 hx5 (by decide) (by decide) (by decide) (by decide)).mono ?_
  intro e w6 hsv
  obtain ⟨A6, c6, rfl, hx6, ht6⟩ := fx8_s1 hsv
  have hb6 : Below w.heap.size w w6 := hb5.trans (ht6.below hb5.size (fun k hk => hx5.base_has k hk))
  clear hsv hx5 hb5
  have HX6 := Lib.hid hx6
  have HB6 := Lib.hid hb6
  have hs7 := Blk.new w6 41 #[.bool true, .int .i64 1, .int .i64 0, .int .i64 1, .slice A6 2 c6]
  have hb7 := (Below.refl w6.heap.size w6).alloc (Nat.le_refl _) (.cells #[.bool true, .int .i64 1, .int .i64 0, .int .i64 1, .slice A6 2 c6] 41)
  have HNS := Lib.hid (show ¬ S5 w6.heap.size from fun hk => by have := HX6.out.has_lt _ hk; omega)
  clear hx6 hb6 ht6
  go_wp2_with fail
  generalize w6.alloc (.cells #[.bool true, .int .i64 1, .int .i64 0, .int .i64 1, .slice A6 2 c6] 41) = w7 at *
  have HX7 := Lib.hid (HX6.out.on hb7)
  have HB7 := Lib.hid (bthen HB6.out hb7)
  have HS7 := Lib.hid hs7
  clear hs7 hb7 HX6 HB6
  refine (nSave_any _ g _ S5 w7 HX7.out (by decide) (by decide) (by decide) (by decide)).mono ?_
  intro e w8 hsv
  obtain ⟨A8, c8, rfl, hx8, ht8⟩ := fx8_s2 hsv
  have HX8 := Lib.hid hx8
  have HB8 := Lib.hid (show Below w.heap.size w w8 from HB7.out.trans (ht8.below HB7.out.size (fun k hk => HX7.out.base_has k hk)))
  have HS8 := Lib.hid (ht8.blk HS7.out HNS.out)
  have hb9 := (Below.refl w8.heap.size w8).alloc (Nat.le_refl _) (.cells #[.bool false, .int .i64 0, .int .i64 0, .int .i64 0, .slice A8 0 c8] 41)
  clear hsv hx8 ht8 HX7 HB7 HS7 HNS
  go_wp2_with fail
  generalize w8.alloc (.cells #[.bool false, .int .i64 0, .int .i64 0, .int .i64 0, .slice A8 0 c8] 41) = w9 at *
  have HX9 := Lib.hid (HX8.out.on hb9)
  have HB9 := Lib.hid (bthen HB8.out hb9)
  have HS9 := Lib.hid (HS8.out.below hb9 HS8.out.lt)
  clear hb9 HX8 HB8 HS8
  have hco := nCommitted_any _ g _ 2 S5 w9 HX9.out (by decide) (by decide) (by decide) (by decide) (by decide)
  rw [fx8_c] at hco
  refine hco.mono ?_
  rintro e w10 ⟨A10, n10, c10, rfl, hn10, hf10, hb10⟩
  have hn1 : n10 = 1 := hn10.symm
  subst hn1
  have HB10 := Lib.hid (bthen HB9.out hb10)
  have HALL := Lib.hid (fun W (hW : Below w10.heap.size w10 W) => (⟨(HX9.out.on hb10).on hW, (HS9.out.below hb10 HS9.out.lt).below hW (Nat.lt_of_lt_of_le HS9.out.lt hb10.size), Sees.on hf10.sees hW⟩ : NodeAt W w.heap.size g _ S5 ∧ Blk W w6.heap.size 41 #[.bool true, .int .i64 1, .int .i64 0, .int .i64 1, .slice A6 2 c6] ∧ Ents W W.heap.size A10 [⟨1, ⟨#[104, 105]⟩⟩]))
  clear hco hn10 hf10 hb10 HX9 HB9 HS9
  go_wp2_with fail
  refine (nNew_any 1 3 5 1 ⟨0, -1, []⟩ none 0 0 w10 (Ents.nil _ _ _) rfl (by omega) (by decide) (by decide) (by decide) (by decide) (by decide)).mono ?_
  rintro e w11 ⟨gy, S11, rfl, hy11, hb11⟩
  go_wp2_with fail
  refine (step3_any _ gy _ fm8 rfl none 0 0 S11 w11 hy11 (by decide) (by decide) (Ents.nil _ _ _) rfl (by decide) hb11.size (by decide)).mono ?_
  rintro e w12 ⟨rfl, hm⟩
  rw [fx8_y] at hm
  obtain ⟨S12, hy12, hb12⟩ := hm.step (Nat.le_refl _) hb11 hy11 (Nat.le_refl _)
  clear hm hy11 hb11
  go_wp2_with fail
  refine (nOut_any _ gy _ S12 w12 hy12 (by decide)).mono ?_
  intro e w13 ho
  obtain ⟨A13, c13, b13, off13, S13, rfl, rfl, hlt13, hns13, hcell, hy13, ht13⟩ := fx8_o ho
  have hb13 : Below w10.heap.size w10 w13 := hb12.trans (ht13.below hb12.size (fun k hk => hy12.base_has k hk))
  clear ho hy12 hb12 ht13
  have HC13 := Lib.hid (And.intro hlt13 (And.intro hns13 hcell))
  clear hlt13 hns13 hcell
  go_wp2_with fail
  refine (propose_any _ gy _ ⟨#[120]⟩ S13 w13 hy13 (by decide) (by decide) (by decide) (by decide) (by decide) hb13.size (by decide) (by decide) (by decide)).mono ?_
  rintro e w14 ⟨rfl, hm⟩
  rw [fx8_q] at hm ⊢
  obtain ⟨S14, hy14, ht14, _⟩ := hm
  have hb14 : Below w10.heap.size w10 w14 := hb13.trans (ht14.below hb13.size (fun k hk => hy13.base_has k hk))
  have HC14 := Lib.hid (And.intro (Nat.lt_of_lt_of_le HC13.out.1 ht14.size) ((ht14.cell (p := ⟨b13, off13 + 7, none⟩) HC13.out.1 HC13.out.2.1).trans HC13.out.2.2))
  clear ht14 hy13 hb13 HC13
  go_wp2_with fail
  refine (nNew_bad 3 3 5 1 ⟨0, -1, []⟩ none 0 0 w14 (by decide)).mono ?_
  rintro e w15 ⟨rfl, hb15⟩
  have HY15 := Lib.hid (hy14.on hb15)
  have hq := (hb15.cell (p := ⟨b13, off13 + 7, none⟩) HC14.out.1).trans HC14.out.2
  have hb16 := hb14.trans (hb15.mono hb14.size)
  obtain ⟨hx, hs, hr⟩ := HALL.out w15 hb16
  obtain ⟨br, offr, rfl, _, r0, r1⟩ := Ents.at_ (es := [⟨1, ⟨#[104, 105]⟩⟩]) hr (j := 0) (by decide)
  have s0 : w15.cell? ⟨w6.heap.size, 0, none⟩ = some (.bool true) := by rw [hs.cell]; rfl
  have s1 : w15.cell? ⟨w6.heap.size, 1, none⟩ = some (.int .i64 1) := by rw [hs.cell]; rfl
  have s2 : w15.cell? ⟨w6.heap.size, 2, none⟩ = some (.int .i64 0) := by rw [hs.cell]; rfl
  have s3 : w15.cell? ⟨w6.heap.size, 3, none⟩ = some (.int .i64 1) := by rw [hs.cell]; rfl
  have s4 : w15.cell? ⟨w6.heap.size, 4, none⟩ = some (.slice A6 2 c6) := by rw [hs.cell]; rfl
  have HRO := Lib.hid (nRole_any _ g _ S5 w15 hx (by decide))
  have HCO := Lib.hid (nCommit_any _ g _ S5 w15 hx (by decide))
  have HTE := Lib.hid (nTerm_any _ gy _ S14 w15 HY15.out (by decide))
  have HFI := Lib.hid (bthen HB10.out hb16)
  have r1' : w15.cell? ⟨br, offr + 1, none⟩ = some (.string ⟨#[104, 105]⟩) := r1
  clear hx hs hr hb14 hb15 hb16 hy14 HALL HC14 HY15 r0 r1
  go_wp2_with fail
  refine (propose_nil _ w15).mono ?_
  rintro e w16 ⟨rfl, rfl⟩
  go_wp2_with fail
  refine HRO.out.mono ?_
  rintro e w17 ⟨rfl, rfl⟩
  go_wp2_with fail
  refine HCO.out.mono ?_
  rintro e w18 ⟨rfl, rfl⟩
  go_wp2_with fail
  refine HTE.out.mono ?_
  rintro e w19 ⟨rfl, rfl⟩
  go_wp2_with fail
  refine (nLeader_nil w19).mono ?_
  rintro e w20 ⟨rfl, rfl⟩
  go_wp2_with fail
  go_ret
  exact ⟨rfl, HFI.out⟩
end Go.Proofs.Ytlggkeoihpcdiaa
