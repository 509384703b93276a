/- RouteTable: who has read a map keeps it as it was; just who knows the number of the newest one changes it. For every input, without a condition. -/
import Derived.Test.YtgioaapflilhhabRows
import Derived.Test.YtgioaapflilhhabFixB
import Derived.Test.YtgioaapflilhhabTbM
import Derived.Test.YtgioaapflilhhabOpen8
import Derived.ProofKit
import Derived.OpenShut
import Derived.ShutString
namespace Go.Proofs.Ytgioaapflilhhab.routeTable
open Go.ChangeShapes Go.WideShapes Go.ChangeAt Go.RowKit
open Go.ChangeMaps (open_string shut_string)
set_option linter.unusedVariables false

theorem own : ownKnob Try.prog.godebug = none := by kernel_rfl
theorem laidOut : laidOutB Try.prog = true := by kernel_rfl

/-- an act as it lies in memory -/
structure ActR where
  A : Option Addr
  n : Nat
  c : Nat
  l : List ByteArray
  less : Nat
def ActsR (w : World) (B : Nat) (A : Option Addr) (n : Nat) (f : Nat → ActR) : Prop :=
  (∀ j, j < n → Sees w B (f j).A (f j).n (txs (f j).l) ∧ (f j).n ≤ maxLen ∧ (f j).less < 256) ∧
  (0 < n → ∃ b off, A = some ⟨b, off, none⟩ ∧ b < B ∧ ∀ j, j < n → w.cell? ⟨b, off + j * 2, none⟩ = some (.slice (f j).A (f j).n (f j).c) ∧ w.cell? ⟨b, off + j * 2 + 1, none⟩ = some (.int .u8 ((f j).less : Int)))

theorem act_cells : Try.prog.cellsOf 49 = 2 := by kernel_rfl
theorem u8_cells' : Try.prog.cellsOf 5 = 1 := by kernel_rfl
theorem sl_cells' : Try.prog.cellsOf 22 = 1 := by kernel_rfl
section
open Go.Deep
variable {H : Type} {enc : TypeId × Value → H} {w : World} {base : Nat} {spare : Nat → Bool} {held : Bool}
set_option maxRecDepth 100000 in
theorem open_acts {fuel : Nat} {a : Option Addr} {len cap : Nat} {y : DataW H × List MemPlace}
    (h : DataW.trod enc Try.prog w base spare held fuel 43 (Value.slice a len cap).cells.toList = some y) :
    len ≤ cap ∧ cap ≤ maxLen ∧ ∃ f, ActsR w w.heap.size a len f := by
  rcases open_slice Try.underlying43 h with ⟨hcs, _⟩ | ⟨x, l, c, m, n, D, Pl, hcs, _, hl, hm, hmm, _, hi⟩
  · simp [Value.cells] at hcs
    obtain ⟨rfl, rfl, rfl⟩ := hcs
    exact ⟨Nat.le_refl _, by decide, fun _ => ⟨none, 0, 0, [], 0⟩, fun j hj => absurd hj (by omega), fun hn => absurd hn (by omega)⟩
  · simp [Value.cells] at hcs
    obtain ⟨rfl, rfl, rfl⟩ := hcs
    rw [act_cells] at hi
    have hone : ∀ i, i < len → ∃ v : ActR, (Sees w w.heap.size v.A v.n (txs v.l) ∧ v.n ≤ maxLen ∧ v.less < 256) ∧ w.cell? ((x.add (i * 2)).add 0) = some (.slice v.A v.n v.c) ∧ w.cell? ((x.add (i * 2)).add 1) = some (.int .u8 (v.less : Int)) := by
      intro i hil
      obtain ⟨cs', hc, ht⟩ := hi i (by rw [hmm]; split <;> omega)
      obtain ⟨_, hlen, hat⟩ := World.cells?_some hc
      obtain ⟨xs, n', _, _, _, hxl, hf⟩ := DataW.trod_struct Try.underlying49 ht
      match cs', hlen with
      | [v0, v1], _ =>
      match xs, hxl with
      | [y0, y1], _ =>
      have f0 := hf 0 _ rfl
      have f1 := hf 1 _ rfl
      simp [u8_cells', sl_cells'] at f0 f1
      obtain ⟨z, e1, _, w1⟩ := DataW.trod_int Try.underlying5 f1
      simp at e1
      subst e1
      have e0 : ∃ A nn cc, v0 = .slice A nn cc := by
        rcases open_slice Try.underlying22 f0 with ⟨h', _⟩ | ⟨a', l', c', _, _, _, _, h', _⟩
        · simp at h'
          exact ⟨_, _, _, h'⟩
        · simp at h'
          exact ⟨_, _, _, h'⟩
      obtain ⟨A, nn, cc, rfl⟩ := e0
      have f0' : DataW.trod enc Try.prog w base spare held n' 22 (Value.slice A nn cc).cells.toList = some y0 := by simpa [Value.cells] using f0
      obtain ⟨hnc, hcm, lb, _, hsb⟩ := open_strs f0'
      have hb := bounds_u8 w1
      refine ⟨⟨A, nn, cc, lb, z.toNat⟩, ⟨hsb, Nat.le_trans hnc hcm, by simp only; omega⟩, hat 0 (by omega), ?_⟩
      rw [show ((z.toNat : Nat) : Int) = z by omega]
      exact hat 1 (by omega)
    refine ⟨hl, hm, fun i => if h : i < len then (hone i h).choose else ⟨none, 0, 0, [], 0⟩, ?_, ?_⟩
    · intro j hj
      simp only [dif_pos hj]
      exact (hone j hj).choose_spec.1
    · intro hn
      obtain ⟨b, off, spot⟩ := x
      have hspot : spot = none := by
        have := (hone 0 hn).choose_spec.2.1
        simpa [Addr.add] using World.cell?_spot this
      subst hspot
      refine ⟨b, off, rfl, World.block_lt_of_cell? w _ ((hone 0 hn).choose_spec.2.1) |> (fun h => by simpa [Addr.add] using h), fun j hj => ?_⟩
      simp only [dif_pos hj]
      have h5 := (hone j hj).choose_spec.2
      have ea : ∀ i, (Addr.add ⟨b, off, none⟩ (j * 2)).add i = ⟨b, off + j * 2 + i, none⟩ := fun i => by rw [Go.WideShapes.add_plain, Go.WideShapes.add_plain]
      exact ⟨(congrArg w.cell? (ea 0)).symm.trans h5.1, (congrArg w.cell? (ea 1)).symm.trans h5.2⟩
end

/-- rows that are known from the beginning -/
def RowsOf (w0 : World) (rs : List Value) (ls : List (List ByteArray)) : Prop := ∀ (i : Nat) (h1 : i < rs.length) (h2 : i < ls.length), ∃ A n c, rs[i] = .slice A n c ∧ Sees w0 w0.heap.size A n (txs ls[i]) ∧ n ≤ maxLen
/-- between two rounds -/
def Round (w0 : World) (t : Nat) (k : Nat) (mv rv : Value) (wr : World) : Prop :=
  ∃ (Am : Option Addr) (cm : Nat) (Ar : Option Addr) (cr : Nat) (gs : List Nat) (ls : List (List ByteArray)) (rs : List Value) (g0 : Nat) (gr : List Nat),
    mv = .slice Am gs.length cm ∧ rv = .slice Ar gs.length cr ∧ gs.length = ls.length ∧ rs.length = ls.length ∧ gs.length ≤ k + 1 ∧ gs = gr ++ [g0] ∧
    FreeN 1 wr w0.heap.size 25 Am gs.length cm (ptrs gs) ∧ FreeN 1 wr w0.heap.size 22 Ar gs.length cr rs ∧ MapsAt wr gs ls ∧ (∀ l ∈ ls, rightF l = 0) ∧ RowsOf w0 rs ls ∧
    TabAt wr t (some ⟨g0, 0, none⟩) gs.length ∧ Below w0.heap.size w0 wr ∧ w0.heap.size ≤ t

set_option maxRecDepth 100000 in
set_option maxHeartbeats 6400000 in
theorem walk (A : Option Addr) (n c : Nat) (f : Nat → ActR) (w : World) (ha : ActsR w w.heap.size A n f) (hn : n ≤ maxLen) :
    Calls Try.prog 6 #[.slice A n c] w fun e w' => e = .returned (.bool true) ∧ Below w.heap.size w w' := by
  have HA := Lib.hid ha
  unfold maxLen at hn
  have hbd1 := fun g W => neq_map ⟨g, 0, none⟩ W
  clear ha
  go_enter Try.func6, Try.ntmps6
  go_wp2_with fail
  refine (fixedB_any w).mono ?_
  rintro e w1 ⟨rfl, hb1⟩
  have HB1 := Lib.hid hb1
  clear hb1
  by_cases h60 : (60 : Int) < (n : Int)
  · go_wp2_with fail
    go_ret
    exact ⟨rfl, HB1.out⟩
  · have hn60 : (n : Int) ≤ 60 := by omega
    have hr0 : rightF [] = 0 := rightF_ok (by decide) rfl (fun k hk => absurd hk (by simp))
    go_wp2_with fail
    refine (new_any none 0 0 [] w1 (Sees.none_ _ _ _) (by decide)).mono ?_
    rintro e w2 ⟨h0, _, hb2⟩
    obtain ⟨g0, rfl, hm2, _⟩ := h0 hr0
    have HB2 := Lib.hid (HB1.out.trans (hb2.mono HB1.out.size))
    have HM2 := Lib.hid hm2
    clear h0 hb2 hm2 HB1
    go_wp2_with fail
    refine (newTable_any _ w2).mono ?_
    rintro e w3 ⟨t, rfl, ht3, hb3, hle⟩
    have HB3 := Lib.hid (HB2.out.trans (hb3.mono HB2.out.size))
    have HM3 := Lib.hid (HM2.out.on hb3)
    have HT3 := Lib.hid ht3
    have HLE := Lib.hid (Nat.le_trans HB2.out.size hle)
    clear ht3 hb3 hle HB2 HM2
    go_wp2_with fail
    have hz : (w3.alloc (.cells #[.pointer (some ⟨g0, 0, none⟩)] 25)).heap.size = w3.heap.size + 1 := by simp
    have HW5 := Lib.hid (show Below w3.heap.size w3 ((w3.alloc (.cells #[.pointer (some ⟨g0, 0, none⟩)] 25)).alloc (.cells #[.slice none 0 0] 22)) from ((Below.refl _ _).alloc (Nat.le_refl _) _).alloc (by simp) _)
    have HFA := Lib.hid (show FreeN 1 ((w3.alloc (.cells #[.pointer (some ⟨g0, 0, none⟩)] 25)).alloc (.cells #[.slice none 0 0] 22)) w.heap.size 25 (some ⟨w3.heap.size, 0, none⟩) 1 1 (ptrs [g0]) from
      ⟨rfl, Nat.le_refl _, by decide, fun _ => ⟨w3.heap.size, 0, #[.pointer (some ⟨g0, 0, none⟩)], rfl, HB3.out.size, (Blk.new w3 _ _).alloc _, by simp, fun j hj => by
        obtain rfl : j = 0 := by omega
        rfl⟩⟩)
    have HFB := Lib.hid (show FreeN 1 ((w3.alloc (.cells #[.pointer (some ⟨g0, 0, none⟩)] 25)).alloc (.cells #[.slice none 0 0] 22)) w.heap.size 22 (some ⟨w3.heap.size + 1, 0, none⟩) 1 1 [.slice none 0 0] from
      ⟨rfl, Nat.le_refl _, by decide, fun _ => ⟨w3.heap.size + 1, 0, #[.slice none 0 0], rfl, by have := HB3.out.size; omega, by have h := Blk.new (w3.alloc (.cells #[.pointer (some ⟨g0, 0, none⟩)] 25)) 22 #[.slice none 0 0]; rw [hz] at h; exact h, by simp, fun j hj => by
        obtain rfl : j = 0 := by omega
        rfl⟩⟩)
    clear hz
    go_loopw [6, 7, 33] (fun mv rv iv wr => ∃ k : Nat, k ≤ n ∧ iv = .int .i64 (k : Int) ∧ Round w t k mv rv wr) (fun _ _ iv _ => n - (intOf iv).toNat)
    case atStart =>
      refine ⟨0, Nat.zero_le _, rfl, _, _, _, _, [g0], [[]], [.slice none 0 0], g0, [], rfl, rfl, rfl, rfl, Nat.le_refl _, rfl, HFA.out, HFB.out, fun i h1 h2 => ?_, fun l hl => ?_, fun i h1 h2 => ?_, HT3.out.on HW5.out, HB3.out.trans (HW5.out.mono HB3.out.size), HLE.out⟩
      · obtain rfl : i = 0 := by simp at h1; omega
        exact HM3.out.on HW5.out
      · rw [List.mem_singleton] at hl
        subst hl
        exact hr0
      · obtain rfl : i = 0 := by simp at h1; omega
        exact ⟨none, 0, 0, rfl, Sees.none_ _ _ _, by decide⟩
    case round =>
      obtain ⟨k, hk, rfl, Am, cm, Ar, cr, gs, ls, rs, g9, gr, rfl, rfl, hgl, hrl, hgk, hge, hfa, hfb, hms, hri, hro, htb, hbw, hle⟩ := hrel
      clear HM3 HT3 HB3 HW5 HFA HFB
      have hge2 : ptrs gs = ptrs gr ++ [.pointer (some ⟨g9, 0, none⟩)] := by rw [hge]; simp [ptrs]
      have hq : gs.length = gr.length + 1 := by rw [hge]; simp
      have hml : MapAt wr g9 (ls.getD gr.length []) := by
        have h9 := hms gr.length (by omega) (by omega)
        rw [List.getD_eq_getElem?_getD, List.getElem?_eq_getElem (by omega)]
        simp only [Option.getD_some]
        have e9 : gs[gr.length]'(by omega) = g9 := by simp [hge]
        rwa [e9] at h9
      by_cases hlt : k < n
      · have hlt' : (k : Int) < (n : Int) := by omega
        obtain ⟨hsB, hnB, hzB⟩ := HA.out.1 k hlt
        obtain ⟨b, off, rfl, hbb, hcells⟩ := HA.out.2 (by omega)
        obtain ⟨c0', c1'⟩ := hcells k hlt
        have c0 := (hbw.cell (p := ⟨b, off + k * 2, none⟩) hbb).trans c0'
        have c1 := (hbw.cell (p := ⟨b, off + k * 2 + 1, none⟩) hbb).trans c1'
        have HSB := Lib.hid hsB
        have HNB := Lib.hid hnB
        obtain ⟨z, hz⟩ : ∃ z : Int, z = ((f k).less : Int) := ⟨_, rfl⟩
        have hz0 : 0 ≤ z := by omega
        have hz1 : z ≤ 255 := by omega
        rw [← hz] at c1
        clear hcells c0' c1' hsB hnB hzB hz
        generalize (f k).A = AB at *
        generalize (f k).n = nB at *
        generalize (f k).c = cB at *
        generalize (f k).l = lB at *
        have hgk2 : (gr.length : Int) ≤ 60 := by omega
        have HC := Lib.hid (show InvT ⟨w, t, some ⟨g9, 0, none⟩, (gs.length : Int), Am, cm, Ar, cr, gs, ls, rs, g9, ls.getD gr.length [], .slice AB nB cB, wr.heap.size, .int .u8 z⟩ (wr.alloc (.cells #[.slice AB nB cB, .int .u8 z] 49)) none none from by
          have hb := (Below.refl wr.heap.size wr).alloc (Nat.le_refl _) (.cells #[.slice AB nB cB, .int .u8 z] 49)
          have hrl' : rs.length = gs.length := by omega
          rw [← hrl', hrl'] at hfb
          exact ⟨FreeN.on hfa hb, FreeN.on hfb hb, hms.on hb, hml.on hb, htb.on hb, hbw.trans (hb.mono hbw.size), Blk.new wr _ _⟩)
        have HGL := Lib.hid hgl
        have HRL := Lib.hid hrl
        have HGK := Lib.hid hgk
        have HGE := Lib.hid hge
        have HGE2 := Lib.hid hge2
        have HRI := Lib.hid hri
        have HRO := Lib.hid hro
        have HLE2 := Lib.hid hle
        have HQ := Lib.hid hq
        clear hfa hfb hms htb hbw hml hgl hrl hgk hge hge2 hri hro hle hbb HLE
        rw [show ((gs.length : Nat) : Int) = (gr.length : Int) + 1 by omega] at HC
        rw [hq]
        generalize ls.getD gr.length [] = LL at *
        obtain ⟨q, hqq⟩ : ∃ q, gr.length = q := ⟨_, rfl⟩
        rw [hqq] at HQ HC hgk2 ⊢
        have HQQ := Lib.hid hqq
        have HKN := Lib.hid hlt
        clear hqq hq
        go_upto_region 12 with (fail)
        generalize wr.heap.size = ga at *
        generalize wr.alloc (.cells #[.slice AB nB cB, .int .u8 z] 49) = W4 at *
        have s0 := HC.out.cell
        have s1 : W4.cell? ⟨ga, 1, none⟩ = some (.int .u8 z) := by rw [HC.out.2.2.2.2.2.2.cell]; rfl
        have HS4 := Lib.hid (HSB.out.below HC.out.2.2.2.2.2.1)
        go_wp2_with fail
        refine (few_any AB nB cB lB 12 W4 _ HS4.out HNB.out).mono ?_
        rintro e w' ⟨rfl, rfl⟩
        cases hfew : fewF lB 12 with
        | false =>
          go_wp2_with fail
          go_ret
          exact ⟨rfl, HC.out.2.2.2.2.2.1⟩
        | true =>
          go_wp2_with fail
          refine (new_any AB nB cB lB w' (HS4.out.more HC.out.size) HNB.out).mono ?_
          rintro e w5 ⟨h0, h1, hb5⟩
          have HC5 := Lib.hid (HC.out.on hb5)
          clear s0 s1 hb5
          have s0 := HC5.out.cell
          have s1 : w5.cell? ⟨ga, 1, none⟩ = some (.int .u8 z) := by rw [HC5.out.2.2.2.2.2.2.cell]; rfl
          by_cases hr : rightF lB = 0
          · obtain ⟨g5, rfl, hm5, _⟩ := h0 hr
            have HM5 := Lib.hid hm5
            have HR5 := Lib.hid hr
            clear h0 h1 hm5 hr
            rcases (show z = 0 ∨ 0 < z by omega) with rfl | hzp
            · have HCH := Lib.hid (change_hit t _ ⟨g5, 0, none⟩ ((q : Int) + 1) w5 HC5.out.2.2.2.2.1 ⟨by omega, by omega⟩)
              go_wp2_with fail
              refine HCH.out.mono ?_
              rintro e w6 ⟨rfl, ht6, hg6⟩
              have HC6 := Lib.hid (HC5.out.turn hg6 HLE2.out (some ⟨g5, 0, none⟩) ((q : Int) + 1 + 1) ht6 g5 lB HM5.out)
              clear s0 s1 ht6 hg6 HCH
              have s0 := HC6.out.cell
              have s1 : w6.cell? ⟨ga, 1, none⟩ = some (.int .u8 0) := by rw [HC6.out.2.2.2.2.2.2.cell]; rfl
              simp only at s0
              go_upto_block 2 with (fail)
              have hq9 : q + 1 ≤ 1000 := by omega
              have HNA2 := Lib.hid (fun o => (show Blk ((w6.alloc o).alloc (.cells #[.pointer (some ⟨g5, 0, none⟩)] 25)) (w6.heap.size + 1) 25 #[.pointer (some ⟨g5, 0, none⟩)] by have h := Blk.new (w6.alloc o) 25 #[.pointer (some ⟨g5, 0, none⟩)]; rwa [show (w6.alloc o).heap.size = w6.heap.size + 1 by simp] at h))
              have HNB2 := Lib.hid (fun o => (show Blk ((w6.alloc o).alloc (.cells #[.slice AB nB cB] 22)) (w6.heap.size + 1) 22 #[.slice AB nB cB] by have h := Blk.new (w6.alloc o) 22 #[.slice AB nB cB]; rwa [show (w6.alloc o).heap.size = w6.heap.size + 1 by simp] at h))
              have sA := fun o => (HC6.out.alloc o).cell
              have sAA := fun o o' => ((HC6.out.alloc o).alloc o').cell
              simp only at sA sAA
              go_cut [6, 7] (fun mv rv wx => ∃ A1 c1 A2 c2, mv = .slice A1 (q + 1 + 1) c1 ∧ rv = .slice A2 (q + 1 + 1) c2 ∧ InvT (⟨w, t, some ⟨g5, 0, none⟩, ((q : Int) + 1 + 1), Am, cm, Ar, cr, gs, ls, rs, g5, lB, .slice AB nB cB, ga, .int .u8 0⟩ : TCtx) wx (some (A1, c1)) (some (A2, c2)))
              case first => as_aux_lemma =>
                go_wp2_with fail
                go_region_held3 (fun X => X.cell? ⟨ga, 0, none⟩ = some (.slice AB nB cB)) (first | exact s0 | exact sA _ | exact sAA _ _ | exact sa4 | exact sa4o _ | exact sb4 | exact sb4o _) (first
                  | (refine step_mapA (⟨w, t, some ⟨g5, 0, none⟩, ((q : Int) + 1 + 1), Am, cm, Ar, cr, gs, ls, rs, g5, lB, .slice AB nB cB, ga, .int .u8 0⟩ : TCtx) (w6.alloc (.cells #[.pointer (some ⟨g5, 0, none⟩)] 25)) (w6.heap.size) (0) rfl (.tmp 58) (.tmp 60) rfl ⟨rfl, rfl, rfl, rfl⟩ (HC6.out.alloc _) (Blk.new w6 _ _) (q + 1) HQ.out hq9 (by simp [Act.eval]) (by simp [Act.eval]) ?_; intro A1 c1 wA hIA hkA; have HIA := Lib.hid hIA; have sa4 := hIA.cell; have sa4o := fun o => (hIA.alloc o).cell; simp only at sa4 sa4o; clear hIA hkA)
                  | (refine step_mapA (⟨w, t, some ⟨g5, 0, none⟩, ((q : Int) + 1 + 1), Am, cm, Ar, cr, gs, ls, rs, g5, lB, .slice AB nB cB, ga, .int .u8 0⟩ : TCtx) ((w6.alloc (.cells #[.pointer (some ⟨g5, 0, none⟩)] 25)).alloc (.cells #[.slice AB nB cB] 22)) (w6.heap.size) (w6.heap.size + 1) rfl (.tmp 58) (.tmp 60) rfl ⟨rfl, rfl, rfl, rfl⟩ ((HC6.out.alloc _).alloc _) ((Blk.new w6 _ _).alloc _) (q + 1) HQ.out hq9 (by simp [Act.eval]) (by simp [Act.eval]) ?_; intro A1 c1 wA hIA hkA; have HIA := Lib.hid hIA; have HGA := Lib.hid (hkA _ (HNB2.out _)); have sa4 := hIA.cell; have sa4o := fun o => (hIA.alloc o).cell; simp only at sa4 sa4o; clear hIA hkA)
                  | (refine step_mapA (⟨w, t, some ⟨g5, 0, none⟩, ((q : Int) + 1 + 1), Am, cm, Ar, cr, gs, ls, rs, g5, lB, .slice AB nB cB, ga, .int .u8 0⟩ : TCtx) ((w6.alloc (.cells #[.slice AB nB cB] 22)).alloc (.cells #[.pointer (some ⟨g5, 0, none⟩)] 25)) (w6.heap.size + 1) (w6.heap.size) rfl (.tmp 58) (.tmp 60) rfl ⟨rfl, rfl, rfl, rfl⟩ ((HC6.out.alloc _).alloc _) (HNA2.out _) (q + 1) HQ.out hq9 (by simp [Act.eval]) (by simp [Act.eval]) ?_; intro A1 c1 wA hIA hkA; have HIA := Lib.hid hIA; have HGA := Lib.hid (hkA _ ((Blk.new w6 _ _).alloc _)); have sa4 := hIA.cell; have sa4o := fun o => (hIA.alloc o).cell; simp only at sa4 sa4o; clear hIA hkA)
                  | (refine step_mapB (⟨w, t, some ⟨g5, 0, none⟩, ((q : Int) + 1 + 1), Am, cm, Ar, cr, gs, ls, rs, g5, lB, .slice AB nB cB, ga, .int .u8 0⟩ : TCtx) (w6.alloc (.cells #[.slice AB nB cB] 22)) (w6.heap.size) (0) rfl (.tmp 62) (.tmp 65) rfl ⟨rfl, rfl, rfl, rfl⟩ (HC6.out.alloc _) (Blk.new w6 _ _) rfl (q + 1) HQ.out hq9 (by simp [Act.eval]) (by simp [Act.eval]) ?_; intro A2 c2 wB hIB hkB; have HIB := Lib.hid hIB; have sb4 := hIB.cell; have sb4o := fun o => (hIB.alloc o).cell; simp only at sb4 sb4o; clear hIB hkB)
                  | (refine step_mapB (⟨w, t, some ⟨g5, 0, none⟩, ((q : Int) + 1 + 1), Am, cm, Ar, cr, gs, ls, rs, g5, lB, .slice AB nB cB, ga, .int .u8 0⟩ : TCtx) ((w6.alloc (.cells #[.slice AB nB cB] 22)).alloc (.cells #[.pointer (some ⟨g5, 0, none⟩)] 25)) (w6.heap.size) (w6.heap.size + 1) rfl (.tmp 62) (.tmp 65) rfl ⟨rfl, rfl, rfl, rfl⟩ ((HC6.out.alloc _).alloc _) ((Blk.new w6 _ _).alloc _) rfl (q + 1) HQ.out hq9 (by simp [Act.eval]) (by simp [Act.eval]) ?_; intro A2 c2 wB hIB hkB; have HIB := Lib.hid hIB; have HGB := Lib.hid (hkB _ (HNA2.out _)); have sb4 := hIB.cell; have sb4o := fun o => (hIB.alloc o).cell; simp only at sb4 sb4o; clear hIB hkB)
                  | (refine step_mapB (⟨w, t, some ⟨g5, 0, none⟩, ((q : Int) + 1 + 1), Am, cm, Ar, cr, gs, ls, rs, g5, lB, .slice AB nB cB, ga, .int .u8 0⟩ : TCtx) ((w6.alloc (.cells #[.pointer (some ⟨g5, 0, none⟩)] 25)).alloc (.cells #[.slice AB nB cB] 22)) (w6.heap.size + 1) (w6.heap.size) rfl (.tmp 62) (.tmp 65) rfl ⟨rfl, rfl, rfl, rfl⟩ ((HC6.out.alloc _).alloc _) (HNB2.out _) rfl (q + 1) HQ.out hq9 (by simp [Act.eval]) (by simp [Act.eval]) ?_; intro A2 c2 wB hIB hkB; have HIB := Lib.hid hIB; have HGB := Lib.hid (hkB _ ((Blk.new w6 _ _).alloc _)); have sb4 := hIB.cell; have sb4o := fun o => (hIB.alloc o).cell; simp only at sb4 sb4o; clear hIB hkB)
                  | (refine step_mapA (⟨w, t, some ⟨g5, 0, none⟩, ((q : Int) + 1 + 1), Am, cm, Ar, cr, gs, ls, rs, g5, lB, .slice AB nB cB, ga, .int .u8 0⟩ : TCtx) (wB.alloc (.cells #[.pointer (some ⟨g5, 0, none⟩)] 25)) (wB.heap.size) (0) rfl (.tmp 58) (.tmp 60) rfl ⟨rfl, rfl, rfl, rfl⟩ (HIB.out.alloc _) (Blk.new wB _ _) (q + 1) HQ.out hq9 (by simp [Act.eval]) (by simp [Act.eval]) ?_; intro A1 c1 wA hIA hkA; have HIA := Lib.hid hIA; have sa4 := hIA.cell; have sa4o := fun o => (hIA.alloc o).cell; simp only at sa4 sa4o; clear hIA hkA)
                  | (refine step_mapA (⟨w, t, some ⟨g5, 0, none⟩, ((q : Int) + 1 + 1), Am, cm, Ar, cr, gs, ls, rs, g5, lB, .slice AB nB cB, ga, .int .u8 0⟩ : TCtx) wB (w6.heap.size) (0) rfl (.tmp 58) (.tmp 60) rfl ⟨rfl, rfl, rfl, rfl⟩ (HIB.out) (HGB.out) (q + 1) HQ.out hq9 (by simp [Act.eval]) (by simp [Act.eval]) ?_; intro A1 c1 wA hIA hkA; have HIA := Lib.hid hIA; have sa4 := hIA.cell; have sa4o := fun o => (hIA.alloc o).cell; simp only at sa4 sa4o; clear hIA hkA)
                  | (refine step_mapA (⟨w, t, some ⟨g5, 0, none⟩, ((q : Int) + 1 + 1), Am, cm, Ar, cr, gs, ls, rs, g5, lB, .slice AB nB cB, ga, .int .u8 0⟩ : TCtx) wB (w6.heap.size + 1) (0) rfl (.tmp 58) (.tmp 60) rfl ⟨rfl, rfl, rfl, rfl⟩ (HIB.out) (HGB.out) (q + 1) HQ.out hq9 (by simp [Act.eval]) (by simp [Act.eval]) ?_; intro A1 c1 wA hIA hkA; have HIA := Lib.hid hIA; have sa4 := hIA.cell; have sa4o := fun o => (hIA.alloc o).cell; simp only at sa4 sa4o; clear hIA hkA)
                  | (refine step_mapB (⟨w, t, some ⟨g5, 0, none⟩, ((q : Int) + 1 + 1), Am, cm, Ar, cr, gs, ls, rs, g5, lB, .slice AB nB cB, ga, .int .u8 0⟩ : TCtx) (wA.alloc (.cells #[.slice AB nB cB] 22)) (wA.heap.size) (0) rfl (.tmp 62) (.tmp 65) rfl ⟨rfl, rfl, rfl, rfl⟩ (HIA.out.alloc _) (Blk.new wA _ _) rfl (q + 1) HQ.out hq9 (by simp [Act.eval]) (by simp [Act.eval]) ?_; intro A2 c2 wB hIB hkB; have HIB := Lib.hid hIB; have sb4 := hIB.cell; have sb4o := fun o => (hIB.alloc o).cell; simp only at sb4 sb4o; clear hIB hkB)
                  | (refine step_mapB (⟨w, t, some ⟨g5, 0, none⟩, ((q : Int) + 1 + 1), Am, cm, Ar, cr, gs, ls, rs, g5, lB, .slice AB nB cB, ga, .int .u8 0⟩ : TCtx) wA (w6.heap.size) (0) rfl (.tmp 62) (.tmp 65) rfl ⟨rfl, rfl, rfl, rfl⟩ (HIA.out) (HGA.out) rfl (q + 1) HQ.out hq9 (by simp [Act.eval]) (by simp [Act.eval]) ?_; intro A2 c2 wB hIB hkB; have HIB := Lib.hid hIB; have sb4 := hIB.cell; have sb4o := fun o => (hIB.alloc o).cell; simp only at sb4 sb4o; clear hIB hkB)
                  | (refine step_mapB (⟨w, t, some ⟨g5, 0, none⟩, ((q : Int) + 1 + 1), Am, cm, Ar, cr, gs, ls, rs, g5, lB, .slice AB nB cB, ga, .int .u8 0⟩ : TCtx) wA (w6.heap.size + 1) (0) rfl (.tmp 62) (.tmp 65) rfl ⟨rfl, rfl, rfl, rfl⟩ (HIA.out) (HGA.out) rfl (q + 1) HQ.out hq9 (by simp [Act.eval]) (by simp [Act.eval]) ?_; intro A2 c2 wB hIB hkB; have HIB := Lib.hid hIB; have sb4 := hIB.cell; have sb4o := fun o => (hIB.alloc o).cell; simp only at sb4 sb4o; clear hIB hkB))
                all_goals
                  go_wp2_with fail
                  go_meet
                  first | exact ⟨_, _, _, _, rfl, rfl, HIB.out⟩ | exact ⟨_, _, _, _, rfl, rfl, HIA.out⟩
              case rest =>
                obtain ⟨A1, c1, A2, c2, rfl, rfl, hI⟩ := hcut
                have HC7 := Lib.hid hI
                clear hI
                go_wp2_with fail
                refine (now_below t _ _ _ HC7.out.2.2.2.2.1).mono ?_
                rintro e w9 ⟨rfl, hb⟩
                have HC9 := Lib.hid (HC7.out.on hb)
                obtain ⟨bl, ol, rfl, hcl⟩ := last_ptr (gr := gs) (g := g5) (n := q + 1 + 1) (by rw [HQ.out]) (by have h9 := HC9.out.1; unfold AtA at h9; simp only at h9; rw [HQ.out] at h9; exact h9)
                rw [HQ.out] at hcl
                clear hb
                go_wp2_with fail
                go_roundw
                case rel =>
                  refine ⟨k + 1, HKN.out, by go_num, some ⟨bl, ol, none⟩, c1, A2, c2, gs ++ [g5], ls ++ [lB], rs ++ [.slice AB nB cB], g5, gs, ?_, ?_, ?_, ?_, ?_, rfl, ?_, ?_, ?_, ?_, ?_, ?_, HC9.out.2.2.2.2.2.1, HLE2.out⟩
                  · rw [List.length_append, HQ.out]; rfl
                  · rw [List.length_append, HQ.out]; rfl
                  · rw [List.length_append, List.length_append, HGL.out]; rfl
                  · rw [List.length_append, List.length_append, HRL.out]; rfl
                  · rw [List.length_append]; have := HGK.out; simp only [List.length_singleton]; omega
                  · have h9 := HC9.out.1
                    unfold AtA at h9
                    simp only at h9
                    have e9 : ptrs (gs ++ [g5]) = ptrs gs ++ [.pointer (some ⟨g5, 0, none⟩)] := by simp [ptrs]
                    rw [e9, List.length_append]
                    exact h9
                  · have h9 := HC9.out.2.1
                    unfold AtB at h9
                    simp only at h9
                    rw [List.length_append]
                    exact h9
                  · intro i h1 h2
                    have hgl := HGL.out
                    rw [List.length_append, List.length_singleton] at h1
                    by_cases e9 : i < gs.length
                    · rw [List.getElem_append_left e9, List.getElem_append_left (by omega)]
                      exact HC9.out.2.2.1 i e9 (show i < ls.length by omega)
                    · obtain rfl : i = gs.length := by omega
                      rw [List.getElem_append_right (Nat.le_refl _), List.getElem_append_right (by omega)]
                      simp only [List.getElem_singleton]
                      exact HC9.out.2.2.2.1
                  · intro x hx
                    rw [List.mem_append, List.mem_singleton] at hx
                    rcases hx with hx | rfl
                    · exact HRI.out x hx
                    · exact HR5.out
                  · intro i h1 h2
                    have hrl := HRL.out
                    rw [List.length_append, List.length_singleton] at h1
                    by_cases e9 : i < rs.length
                    · rw [List.getElem_append_left e9, List.getElem_append_left (by omega)]
                      exact HRO.out i e9 (by omega)
                    · obtain rfl : i = rs.length := by omega
                      refine ⟨AB, nB, cB, ?_, ?_, HNB.out⟩
                      · rw [List.getElem_append_right (Nat.le_refl _)]
                        simp
                      · rw [List.getElem_append_right (by omega)]
                        simp only [List.getElem_singleton]
                        exact HSB.out
                  · have h9 := HC9.out.2.2.2.2.1
                    rw [List.length_append, HQ.out, show ((q + 1 + [g5].length : Nat) : Int) = (q : Int) + 1 + 1 by simp]
                    exact h9
                case measure => have := HKN.out; simp [intOf]; omega
            · have HCH := Lib.hid (change_miss t _ ⟨g5, 0, none⟩ ((q : Int) + 1) ((q : Int) + 1 - z) w5 HC5.out.2.2.2.2.1 ⟨by omega, by omega⟩ (by omega))
              go_wp2_with fail
              refine HCH.out.mono ?_
              rintro e w6 ⟨rfl, hb6⟩
              have HC6 := Lib.hid (HC5.out.on hb6)
              clear s0 s1 hb6
              have s0 := HC6.out.cell
              have s1 : w6.cell? ⟨ga, 1, none⟩ = some (.int .u8 z) := by rw [HC6.out.2.2.2.2.2.2.cell]; rfl
              go_wp2_with fail
              refine (now_below t _ _ w6 HC6.out.2.2.2.2.1).mono ?_
              rintro e w9 ⟨rfl, hb⟩
              have HC9 := Lib.hid (HC6.out.on hb)
              obtain ⟨bl, ol, rfl, hcl⟩ := last_ptr (gr := gr) (g := g9) (n := q + 1) (by rw [HQQ.out]) (by have h9 := HC9.out.1; unfold AtA at h9; simp only at h9; rw [HGE2.out, HQ.out] at h9; exact h9)
              rw [HQQ.out] at hcl
              clear hb
              go_wp2_with fail
              go_roundw
              case rel =>
                refine ⟨k + 1, HKN.out, by go_num, some ⟨bl, ol, none⟩, cm, Ar, cr, gs, ls, rs, g9, gr, by rw [HQ.out], by rw [HQ.out], HGL.out, HRL.out, by have := HGK.out; omega, HGE.out, HC9.out.1, ?_, HC9.out.2.2.1, HRI.out, HRO.out, ?_, HC9.out.2.2.2.2.2.1, HLE2.out⟩
                · have h9 := HC9.out.2.1
                  unfold AtB at h9
                  simp only at h9
                  exact h9
                · have h9 := HC9.out.2.2.2.2.1
                  rw [HQ.out, show ((q + 1 : Nat) : Int) = (q : Int) + 1 by omega]
                  exact h9
              case measure => have := HKN.out; simp [intOf]; omega
          · have he := h1 hr
            obtain ⟨R, hRe⟩ : ∃ R, rightF lB = R := ⟨_, rfl⟩
            rw [hRe] at he hr
            subst he
            have hr1 : (R == 0) = false := by simp [hr]
            have hr2 : (R != 0) = true := by simp [hr]
            have HCH := Lib.hid (change_none t _ ((q : Int) + 1) ((q : Int) + 1 - z) w5 HC5.out.2.2.2.2.1)
            clear h0 h1 hr hRe
            go_wp2_with fail
            refine HCH.out.mono ?_
            rintro e w' ⟨rfl, rfl⟩
            go_wp2_with fail
            refine (now_below t _ _ w' HC5.out.2.2.2.2.1).mono ?_
            rintro e w9 ⟨rfl, hb⟩
            have HC9 := Lib.hid (HC5.out.on hb)
            obtain ⟨bl, ol, rfl, hcl⟩ := last_ptr (gr := gr) (g := g9) (n := q + 1) (by rw [HQQ.out]) (by have h9 := HC9.out.1; unfold AtA at h9; simp only at h9; rw [HGE2.out, HQ.out] at h9; exact h9)
            rw [HQQ.out] at hcl
            clear hb
            go_wp2_with fail
            go_roundw
            case rel =>
              refine ⟨k + 1, HKN.out, by go_num, some ⟨bl, ol, none⟩, cm, Ar, cr, gs, ls, rs, g9, gr, by rw [HQ.out], by rw [HQ.out], HGL.out, HRL.out, by have := HGK.out; omega, HGE.out, HC9.out.1, ?_, HC9.out.2.2.1, HRI.out, HRO.out, ?_, HC9.out.2.2.2.2.2.1, HLE2.out⟩
              · have h9 := HC9.out.2.1
                unfold AtB at h9
                simp only at h9
                exact h9
              · have h9 := HC9.out.2.2.2.2.1
                rw [HQ.out, show ((q + 1 : Nat) : Int) = (q : Int) + 1 by omega]
                exact h9
            case measure => have := HKN.out; simp [intOf]; omega
      · have hge0 : ¬ (k : Int) < (n : Int) := by omega
        have HFA := Lib.hid hfa
        have HFB := Lib.hid hfb
        have HMS := Lib.hid hms
        have HRI := Lib.hid hri
        have HRO := Lib.hid hro
        have HBW := Lib.hid hbw
        have HGL := Lib.hid hgl
        have HRL := Lib.hid hrl
        have hg61 : (gs.length : Int) ≤ 61 := by omega
        clear hfa hfb hms hri hro hbw hgl hrl hgk hge hge2 hq hml htb hle hlt
        go_wp2_with fail
        go_loopw [99] (fun iv wx => ∃ i : Nat, i ≤ gs.length ∧ iv = .int .i64 (i : Int) ∧ Below wr.heap.size wr wx) (fun iv _ => gs.length - (intOf iv).toNat)
        case atStart => exact ⟨0, Nat.zero_le _, rfl, Below.refl _ _⟩
        case round =>
          obtain ⟨i, hi, rfl, hbx⟩ := hrel
          have HBX := Lib.hid hbx
          clear hbx
          by_cases hil : i < gs.length
          · have hil' : (i : Int) < (gs.length : Int) := by omega
            have hil2 : i < ls.length := by have := HGL.out; omega
            have hil3 : i < rs.length := by have := HRL.out; omega
            have hsA := (HFA.out.on HBX.out).sees
            rw [Nat.mul_one] at hsA
            obtain ⟨ba, oa, ua, rfl, _, ka, hca⟩ := hsA.at_ (k := i) hil
            obtain rfl : ua = .pointer (some ⟨gs[i], 0, none⟩) := by
              simp only [ptrs, List.getElem?_map, List.getElem?_eq_getElem hil, Option.map_some, Option.some.injEq] at ka
              exact ka.symm
            have hsB := (HFB.out.on HBX.out).sees
            rw [Nat.mul_one] at hsB
            obtain ⟨bb, ob, ub, rfl, _, kb, hcb⟩ := hsB.at_ (k := i) hil
            obtain ⟨Ai, ni, ci, hri, hsi, hni⟩ := HRO.out i hil3 hil2
            obtain rfl : ub = .slice Ai ni ci := by
              rw [List.getElem?_eq_getElem hil3, hri] at kb
              injection kb with kb
              exact kb.symm
            have HMI := Lib.hid ((HMS.out i hil hil2).on HBX.out)
            have hRI := HRI.out _ (List.getElem_mem hil2)
            have HL7 := Lib.hid (rightF_zero hRI).1
            have HSI := Lib.hid (hsi.below (HBW.out.trans (HBX.out.mono HBW.out.size)))
            have HNI := Lib.hid hni
            have HIL := Lib.hid hil
            have HCB := Lib.hid (fun W (h : Below wr.heap.size wr W) => (h.cell (p := ⟨bb, ob + i, none⟩) (World.block_lt_of_cell? _ _ hcb)).trans hcb)
            generalize gs[i] = gi at *
            generalize ls[i] = li at *
            clear hsA ka hsB kb hri hsi hni hRI hil
            go_wp2_with fail
            have HSP := Lib.hid (splits_any gi li wr.drew (HMI.out.on (Below.refl _ _).drew) HL7.out)
            go_region_held3 (fun X => X.cell? ⟨bb, ob + i, none⟩ = some (.slice Ai ni ci)) (first | exact hcb | exact hcb5 | exact hcb6) (first
              | (go_at_call 13; refine HSP.out.mono ?_; rintro e w5 ⟨A5, c5, rfl, hf5, hb5⟩; have hb5' := (Below.refl wr.heap.size wr).drew.trans hb5; have hcb5 := HCB.out _ hb5'; have HB5 := Lib.hid hb5'; have hs5 := hf5.sees; rw [Nat.mul_one] at hs5; have HSA := Lib.hid (same_any A5 li.length c5 li Ai ni ci li w5 _ _ hs5 (HSI.out.below (hb5'.mono (Nat.le_trans HBW.out.size HBX.out.size))) (Nat.le_trans HL7.out (by decide))); clear hf5 hb5 hb5' hs5)
              | (go_at_call 12; refine HSA.out.mono ?_; rintro e w6 ⟨rfl, hb6⟩; have hb6' := HB5.out.trans (hb6.mono HB5.out.size); have hcb6 := HCB.out _ hb6'; have HB6 := Lib.hid hb6'; clear hb6 hb6'))
            all_goals
              go_wp2_with fail
              go_roundw
              case rel => exact ⟨i + 1, HIL.out, by go_num, HBX.out.trans (HB6.out.mono HBX.out.size)⟩
              case measure => have := HIL.out; simp [intOf]; omega
          · have hige : ¬ (i : Int) < (gs.length : Int) := by omega
            go_wp2_with fail
            go_ret
            exact ⟨rfl, HBW.out.trans (HBX.out.mono HBW.out.size)⟩
set_option maxRecDepth 100000 in
theorem lifted (os : Os) (started : os.Started) (H : Type) (enc : TypeId × Value → H) :
    ReturnsInHanded {} Try.checked os 6 .any (Rows.routeTableSpec.pre6 enc Try.prog Try.f6 Rows.routeTableRow.domain false) (Rows.routeTableSpec.post enc Try.prog Try.f6 false true false false) := by
  refine returnsInHanded_of_change (C := Try.checked) own started (by kernel_rfl) Try.func6
    (ChangeSpec.witness6 (enc := enc) (C := Try.checked) false ⟨#[], #[.slice none 0 0], []⟩ 8 (by kernel_rfl) (by kernel_rfl) (by kernel_rfl) (by kernel_rfl)) ?_
  intro W base args ds gs before hval0 hW hcnd _
  have hval : ∀ (j : Nat) t v, Try.f6.params[j]? = some t → args[j]? = some v → Value.okWide Try.prog W .any base t v := hval0
  have hW' := hW
  obtain ⟨p, q, hA0, hV, rfl, hfz, hnd⟩ := hW
  have hA : DataW.TrodAll enc Try.prog W 0 (fun _ => true) true Try.f6.params.toList args.toList ds p := hA0
  rw [Try.params6] at hA hval
  obtain ⟨v0, vs0, d0, ds0, p0, q0, hargs, rfl, rfl, h0, r0⟩ := trodAll_cons hA
  obtain ⟨rfl, rfl, rfl⟩ := trodAll_nil r0
  obtain rfl : args = #[v0] := by cases args; simp_all
  obtain ⟨rfl, rfl⟩ := trodVars_none hV
  obtain ⟨a0, len0, cap0, rfl⟩ := okWide_slice Try.underlying43 (hval 0 43 v0 rfl rfl)
  have k0 := h0
  have lt0 : ∀ x ∈ p0, x.block < W.heap.size := by obtain ⟨m, hm⟩ := k0; exact DataW.trod_lt m _ _ _ hm
  obtain ⟨m0, h0⟩ := h0
  obtain ⟨hl0, hc0, x0, hs0⟩ := open_acts h0
  clear hA0 hval0
  try simp only [List.append_nil] at hW'
  try simp only [List.nil_append] at hW'
  refine (walk a0 len0 cap0 x0 W hs0 (Nat.le_trans hl0 hc0)).mono fun e W' ⟨he, bel⟩ => ?_
  subst he
  exact ⟨_, rfl, _, _, _, [], _, [], hW', trodAll_mk1 (shut_bool Try.underlying4 _), (trodAll_cons_mk (Below.trod laidOut (by kernel_rfl) (of_decide_eq_true (by kernel_rfl)) k0 bel lt0) trodAll_mk0), rfl, bel.frame _, fun h => by cases h⟩

theorem over : Rows.routeTableRow.holds Try.pinned (OpenSpec.ofChange Rows.routeTableSpec) :=
  OpenClaim.holds_of_wide 6 Try.f6 rfl rfl rfl rfl rfl rfl rfl ⟨rfl, rfl, rfl, rfl, rfl⟩ rfl rfl rfl rfl rfl (by kernel_rfl) Try.func6 (by kernel_rfl)
    (of_decide_eq_true (by kernel_rfl)) (by unfold Func.isWrapper; first | (rw [if_pos (by decide +kernel)]; kernel_rfl) | (rw [if_neg (by decide +kernel)]; exact ⟨rfl, rfl⟩))
    (fun os started H enc _ => lifted os started H enc)

theorem proved : Rows.RouteTableSaid :=
  over
#print axioms proved
end Go.Proofs.Ytgioaapflilhhab.routeTable
