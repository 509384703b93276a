/- A region that draws its order, whose operations only read and whose callees make memory at most: one walk, in the order of the text, in every world of a class that is told by an index. -/
import Derived.BigQuiet
import Derived.Test.YtlggkeoihpcdiaaJ26
namespace Go.Proofs.Ytlggkeoihpcdiaa
set_option linter.unusedVariables false
open Go.RowKit

theorem region_class {P : Program} {I : Type} (F : I → World) (n0 : I) {id : Nat} {Q : Exit → Act → World → Prop} {a : Act} {w : World} {l : List Oper} (h0 : F n0 = w.drew) (hm : P.follows .mixedOrders = true) (hB : Region.lexB .any l.toArray = true)
    (h : wpQuiet P l.toArray (fun w' => ∃ n, w' = F n) (fun a' => ∀ w', (∃ n, w' = F n) → Q .normal a' w') l a) : (Code.region id l.toArray true).wp P Q a w :=
  wp_region_quiet (C := fun w' => ∃ n, w' = F n) hm hB ⟨n0, h0.symm⟩ (by simpa using h)
/-- the worlds that are as w was below -/
def On (w : World) : Type := { W : World // Below w.heap.size w W }
def On.w {w : World} (n : On w) : World := n.1
theorem On.below {w : World} (n : On w) : Below w.heap.size w n.w := n.2
def On.first (w : World) : On w := ⟨w.drew, (Below.refl _ _).drew⟩
theorem On.call {P : Program} {f : FuncId} {args : Array Value} {w : World} {v : Value} (n : On w) (h : Calls P f args n.w fun e w' => e = .returned v ∧ Below n.w.heap.size n.w w') : Calls P f args n.w fun e w' => e = .returned v ∧ ∃ m : On w, w' = m.w :=
  h.mono fun _ w' ⟨he, hb⟩ => ⟨he, ⟨w', bthen n.below hb⟩, rfl⟩
theorem On.same {P : Program} {f : FuncId} {args : Array Value} {w : World} {v : Value} (n : On w) (h : Calls P f args n.w fun e w' => e = .returned v ∧ w' = n.w) : Calls P f args n.w fun e w' => e = .returned v ∧ ∃ m : On w, w' = m.w :=
  h.mono fun _ _ ⟨he, hb⟩ => ⟨he, n, hb⟩
theorem Ents.at2 {w : World} {B : Nat} {A : Option Addr} {es : List Ent} (h : Ents w B A es) {j : Nat} {z : Ent} (hz : es[j]? = some z) :
    ∃ b off, A = some ⟨b, off, none⟩ ∧ b < B ∧ w.cell? ⟨b, off + j * 2, none⟩ = some (.int .i64 z.t) ∧ w.cell? ⟨b, off + j * 2 + 1, none⟩ = some (.string z.s) := by
  obtain ⟨hj, rfl⟩ := List.getElem?_eq_some_iff.1 hz
  exact h.at_ hj
theorem mcs_get : ∀ (ml : List MsgL) (j i : Nat) (hj : j < ml.length) (hi : i < 9), (mcs ml)[j * 9 + i]? = ml[j].cells[i]?
  | e :: _, 0, i, _, hi => by
    show (e.cells ++ mcs _)[0 * 9 + i]? = e.cells[i]?
    rw [Nat.zero_mul, Nat.zero_add, List.getElem?_append_left (show i < e.cells.length from hi)]
  | e :: es, j + 1, i, hj, hi => by
    have ih := mcs_get es j i (by simpa using hj) hi
    have hj2 : j < es.length := by simpa using hj
    show (e.cells ++ mcs es)[(j + 1) * 9 + i]? = es[j].cells[i]?
    rw [List.getElem?_append_right (show e.cells.length ≤ _ by show 9 ≤ _; omega), show (j + 1) * 9 + i - e.cells.length = j * 9 + i by show _ - 9 = _; omega, ih]
/-- a row of messages: where one lies, and its cells -/
theorem Sees.msg {w : World} {B n : Nat} {A : Option Addr} {ml : List MsgL} (h : Sees w B A n (mcs ml)) {j : Nat} {u : MsgL} (hu : ml[j]? = some u) :
    ∃ b off, A = some ⟨b, off, none⟩ ∧ b < B ∧ ∀ i v, u.cells[i]? = some v → w.cell? ⟨b, off + j * 9 + i, none⟩ = some v := by
  obtain ⟨hj, rfl⟩ := List.getElem?_eq_some_iff.1 hu
  have hl : 0 < n := by
    rw [← h.1]
    have h9 := mcs_get ml j 0 hj (by omega)
    rw [show ml[j].cells[0]? = some _ from rfl] at h9
    have := (List.getElem?_eq_some_iff.1 h9).1
    omega
  obtain ⟨b, off, rfl, hb, hc⟩ := h.2 hl
  refine ⟨b, off, rfl, hb, fun i v hv => ?_⟩
  have hi : i < 9 := (List.getElem?_eq_some_iff.1 hv).1
  rw [Nat.add_assoc]
  exact hc _ _ ((mcs_get ml j i hj hi).trans hv)
/-- messages are handed out, so many -/
def OutRet2 (w : World) (base g : Nat) (x : NodeM) (S : Nat → Prop) (e : Ending) (w' : World) : Prop :=
  ∃ A q c ml, e = .returned (.slice A q c) ∧ ml.length = q ∧ q ≤ maxLen ∧ ml.map MsgL.m = x.out ∧ Sees w' w'.heap.size A (q * 9) (mcs ml) ∧ (∀ y ∈ ml, y.m.es.length = y.n) ∧ NMoves0 w base g S { x with out := [] } w'
theorem OutRet.two {w : World} {base g : Nat} {x : NodeM} {S : Nat → Prop} {e : Ending} {w' : World} (h : OutRet w base g x S e w') : OutRet2 w base g x S e w' := by
  obtain ⟨A, c, ml, S', rfl, h1, h2, h3, h4, h5, h6, _⟩ := h
  exact ⟨A, _, c, ml, rfl, rfl, Nat.le_trans h2.2.1 h2.2.2.1, h1, h2.sees, fun y hy => (h3 y hy).1, ⟨S', h4, h5.to0, fun i hi => .inl (h6 i hi)⟩⟩
theorem msg_cells2 {w : World} {J : Nat} {u : MsgL} (h : Blk w J 61 #[.int .i64 u.m.k, .int .i64 u.m.f, .int .i64 u.m.t, .int .i64 u.m.term, .int .i64 u.m.i, .int .i64 u.m.lt, .int .i64 u.m.c, .bool u.m.yes, .slice u.A u.n u.c]) :
    w.cell? ⟨J, 0, none⟩ = some (.int .i64 u.m.k) ∧ w.cell? ⟨J, 1, none⟩ = some (.int .i64 u.m.f) ∧ w.cell? ⟨J, 2, none⟩ = some (.int .i64 u.m.t) ∧ w.cell? ⟨J, 3, none⟩ = some (.int .i64 u.m.term) ∧ w.cell? ⟨J, 8, none⟩ = some (.slice u.A u.n u.c) := by
  have hc := fun i => h.cell i
  exact ⟨hc 0, hc 1, hc 2, hc 3, hc 8⟩
/-- what is kept, entry by entry, when a part of it is replaced -/
theorem kept_es {x : NodeM} {k : StP} (h : KeptOf x k) {p : Nat} (hp : x.fr = (p : Int) + 1) (hl : x.log.length ≤ 1024) (hf : x.fr ≤ x.log.length) : p ≤ k.es.length ∧ k.es.take p ++ saveEs x = x.log ∧ (saveEs x).length = x.log.length - p ∧ p < x.log.length := by
  obtain ⟨h1, h2⟩ := h.some (by omega)
  have e : (x.fr - 1).toNat = p := by omega
  have e2 : saveEs x = x.log.drop p := by rw [save_entries (by omega) hl, e]
  rw [e] at h2
  exact ⟨by omega, by rw [h2, e2, List.take_append_drop], by rw [e2, List.length_drop], by omega⟩
theorem part_facts {y : NodeM} {kp : StP} {p n2 c2 nv : Nat} (hko : KeptOf y kp) (hp : y.fr = (p : Int) + 1) (hl : y.log.length ≤ 1024) (hf : y.fr ≤ y.log.length) (hkl : kp.es.length = n2) (hcn : n2 ≤ c2) (hnv : (saveEs y).length = nv) :
    (p ≤ n2 ∧ kp.es.take p ++ saveEs y = y.log ∧ y.log.length = p + nv) ∧ (0 : Int) < (nv : Int) ∧ decide ((p : Int) + 1 < 1) = false ∧ decide ((n2 : Int) + 1 < (p : Int) + 1) = false ∧ (IntKind.i64.wrap ((p : Int) + 1 - 1) = (p : Int) ∧ IntKind.i64.wrap (p : Int) = (p : Int)) ∧ (p ≤ c2 ∧ (p : Int) ≤ (c2 : Int)) ∧ (0 + p ≤ maxLen ∧ (0 + p) * 24 ≤ 140737488355328) ∧ p + nv ≤ maxLen ∧ (p + nv) * 24 ≤ 140737488355328 := by
  obtain ⟨e1, e2, e3, e4⟩ := kept_es hko hp hl hf
  rw [hnv] at e3
  rw [hkl] at e1
  have h1 : (p : Int) + 1 - 1 = (p : Int) := by omega
  refine ⟨⟨e1, e2, by omega⟩, by omega, decide_eq_false (by omega), decide_eq_false (by omega), ⟨by rw [h1]; exact wr_i64 (by omega) (by omega), wr_i64 (by omega) (by omega)⟩, ⟨by omega, by omega⟩, ⟨Nat.le_trans (show 0 + p ≤ 1024 by omega) (by decide), by omega⟩, Nat.le_trans (show p + nv ≤ 1024 by omega) (by decide), by omega⟩
theorem KeptOf.of_out {x : NodeM} {k : StP} {o : List MsgM} (h : KeptOf x k) : KeptOf { x with out := o } k := ⟨h.hard, h.all, h.some⟩
theorem Kept.more {S : Nat → Prop} {w : World} {A : Option Addr} {es : List Ent} {n p : Nat} (h : Kept S w A es) (hn : es.length = n) (hp : p ≤ n) : Sees w w.heap.size A (p * 2) (ecs (es.take p)) := by
  refine ⟨by rw [ecs_length, List.length_take]; omega, fun h0 => ?_⟩
  obtain ⟨b, off, h1, h2, _, h4⟩ := h (by omega)
  refine ⟨b, off, h1, h2, fun j u hu => h4 j u ?_⟩
  rw [← ecs_take] at hu
  have hj := (List.getElem?_eq_some_iff.1 hu).1
  rw [List.length_take] at hj
  rw [List.getElem?_take, if_pos (by omega)] at hu
  exact hu
theorem Kept.part_on {S : Nat → Prop} {w : World} {A : Option Addr} {es : List Ent} {n p : Nat} (h : Kept S w A es) (hn : es.length = n) (hp : p ≤ n) : Hid (∀ W, Below w.heap.size w W → Sees W W.heap.size A (p * 2) (ecs (es.take p))) :=
  Lib.hid (fun W hW => Sees.on (Kept.more h hn hp) hW)
theorem Kept.all_on {S : Nat → Prop} {w : World} {A : Option Addr} {es : List Ent} {n : Nat} (h : Kept S w A es) (hn : es.length = n) : Hid (∀ W, Below w.heap.size w W → Sees W W.heap.size A (n * 2) (ecs es)) := by
  subst hn
  exact Lib.hid (fun W hW => Sees.on h.ents hW)
/-- a save is handed out -/
def SaveRet2 (w : World) (base g : Nat) (x y : NodeM) (S : Nat → Prop) (e : Ending) (w' : World) : Prop :=
  ∃ A n c T V so fe fi, e = .returned (.tuple #[.agg #[.bool fe, .int .i64 T, .int .i64 V, .int .i64 fi, .slice A n c], .bool so]) ∧ (fe = x.fresh ∧ T = saveT x ∧ V = saveV x ∧ fi = x.fr ∧ so = saveOk x) ∧ (saveEs x).length = n ∧ FreeN 2 w' w.heap.size 73 A n c (ecs (saveEs x)) ∧ NodeAt w' base g y S ∧ Turn S w w'
theorem SaveRet.two {w : World} {base g : Nat} {x : NodeM} {o : List MsgM} {S : Nat → Prop} {e : Ending} {w' : World} (h : SaveRet w base g { x with out := o } S e w') : SaveRet2 w base g x { savedF x with out := o } S e w' := by
  obtain ⟨A, c, he, hf, hn, ht⟩ := h
  exact ⟨A, _, c, _, _, _, _, _, he, ⟨rfl, rfl, rfl, rfl, rfl⟩, rfl, hf, hn, ht⟩
theorem save_cells {w : World} {b : Nat} {fe : Bool} {T V fi : Int} {A : Option Addr} {n c : Nat} (h : Blk w b 41 #[.bool fe, .int .i64 T, .int .i64 V, .int .i64 fi, .slice A n c]) :
    w.cell? ⟨b, 0, none⟩ = some (.bool fe) ∧ w.cell? ⟨b, 1, none⟩ = some (.int .i64 T) ∧ w.cell? ⟨b, 2, none⟩ = some (.int .i64 V) ∧ w.cell? ⟨b, 3, none⟩ = some (.int .i64 fi) ∧ w.cell? ⟨b, 4, none⟩ = some (.slice A n c) := by
  have hc := fun i => h.cell i
  exact ⟨hc 0, hc 1, hc 2, hc 3, hc 4⟩
theorem state_cells {w : World} {b : Nat} {T V : Int} {A : Option Addr} {n c : Nat} (h : Blk w b 25 #[.int .i64 T, .int .i64 V, .slice A n c]) :
    w.cell? ⟨b, 0, none⟩ = some (.int .i64 T) ∧ w.cell? ⟨b, 1, none⟩ = some (.int .i64 V) ∧ w.cell? ⟨b, 2, none⟩ = some (.slice A n c) := by
  have hc := fun i => h.cell i
  exact ⟨hc 0, hc 1, hc 2⟩
theorem get_take {α : Type} {l : List α} {j m : Nat} {z : α} (h : l[j]? = some z) (hj : j < m) : (l.take m)[j]? = some z := by
  rw [List.getElem?_take, if_pos hj, h]
theorem get_keep {α : Type} {l r : List α} {j m : Nat} {z : α} (h : l[j]? = some z) (hj : j < m) (hk : l.take m = r.take m) : (r.take m)[j]? = some z := by
  rw [← hk]
  exact get_take h hj
end Go.Proofs.Ytlggkeoihpcdiaa
