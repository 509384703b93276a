/- Frames as lists of bytes: what one is, what is taken off, and that a turned byte isn't read. No program is named. -/
import Derived.Deep.RegionWith
import Derived.Deep.DeepCutAuto
import Derived.BigQuiet
import Derived.Deep.RegionLaw
import Derived.Deep.AppendLies
import Derived.Test.YtlggkeoihpcdiaaJ1
import Derived.Test.YtlggkeoihpcdiaaJ2
namespace Go.Proofs.Ytlggkeoihpcdiaa

/-- the four bytes ahead of n bytes -/
def hd (n : Nat) : List UInt8 := [UInt8.ofNat (n / 256), UInt8.ofNat n, 255 - UInt8.ofNat (n / 256), 255 - UInt8.ofNat n]
/-- the frame of a payload -/
def frameOf (p : List UInt8) : List UInt8 := hd p.length ++ (p ++ le4 (crcOf p))
/-- what is taken off: the payload, the frame's size, the error's number -/
structure TK where
  p : List UInt8
  n : Nat
  e : Nat
/-- the payload's length, and the error's number, as the first four bytes tell -/
def lenF : List UInt8 → Nat × Nat
  | b0 :: b1 :: b2 :: b3 :: _ => if b0 + b2 = 255 ∧ b1 + b3 = 255 then (if 4096 < b0.toNat * 256 + b1.toNat then (0, 4) else (b0.toNat * 256 + b1.toNat, 0)) else (0, 3)
  | _ => (0, 2)
def takeF (b : List UInt8) : TK :=
  if (lenF b).2 ≠ 0 then ⟨[], 0, (lenF b).2⟩ else
  if b.length < (lenF b).1 + 8 then ⟨[], 0, 2⟩ else
  if le4 (crcOf ((b.drop 4).take (lenF b).1)) = (b.drop (4 + (lenF b).1)).take 4 then ⟨(b.drop 4).take (lenF b).1, (lenF b).1 + 8, 0⟩ else ⟨[], 0, 3⟩
def wholeF (b : List UInt8) : List UInt8 × Nat :=
  if (takeF b).e ≠ 0 then ([], (takeF b).e) else if (takeF b).n < b.length then ([], 2) else ((takeF b).p, 0)

theorem hd_length (n : Nat) : (hd n).length = 4 := rfl
theorem le4_length (n : Nat) : (le4 n).length = 4 := rfl
theorem frameOf_length (p : List UInt8) : (frameOf p).length = p.length + 8 := by simp [frameOf, hd_length, le4_length]; omega

theorem byte_sum (x y : UInt8) : x + y = 255 ↔ y = 255 - x := by
  constructor
  · intro h
    rw [← h, UInt8.add_comm, UInt8.add_sub_cancel]
  · intro h
    subst h
    rw [UInt8.add_comm, UInt8.sub_add_cancel]
theorem head_num (n : Nat) (h : n ≤ 4096) : (UInt8.ofNat (n / 256)).toNat * 256 + (UInt8.ofNat n).toNat = n := by
  simp only [UInt8.toNat_ofNat']
  omega
theorem lenF_long {b : List UInt8} (h : 4 ≤ b.length) : ∃ b0 b1 b2 b3 r, b = b0 :: b1 :: b2 :: b3 :: r := by
  match b, h with
  | b0 :: b1 :: b2 :: b3 :: r, _ => exact ⟨b0, b1, b2, b3, r, rfl⟩
theorem lenF_short {b : List UInt8} (h : b.length < 4) : lenF b = (0, 2) := by
  match b, h with
  | [], _ => rfl
  | [_], _ => rfl
  | [_, _], _ => rfl
  | [_, _, _], _ => rfl
theorem lenF_hd (n : Nat) (r : List UInt8) (h : n ≤ 4096) : lenF (hd n ++ r) = (n, 0) := by
  have h1 := head_num n h
  unfold hd
  simp only [List.cons_append, List.nil_append, lenF]
  rw [if_pos ⟨(byte_sum _ _).2 rfl, (byte_sum _ _).2 rfl⟩, h1, if_neg (by omega)]
theorem lenF_le (b : List UInt8) : (lenF b).1 ≤ 4096 := by
  by_cases h : b.length < 4
  · rw [lenF_short h]; omega
  · obtain ⟨b0, b1, b2, b3, r, rfl⟩ := lenF_long (b := b) (by omega)
    simp only [lenF]
    split
    · split
      · simp
      · show b0.toNat * 256 + b1.toNat ≤ 4096
        omega
    · simp
theorem lenF_four {b : List UInt8} (h : (lenF b).2 = 0) : 4 ≤ b.length := by
  by_cases h4 : b.length < 4
  · rw [lenF_short h4] at h
    simp at h
  · omega
/-- the head of bytes whose length can be told is that of the length -/
theorem lenF_head {b : List UInt8} (h : (lenF b).2 = 0) : b.take 4 = hd (lenF b).1 := by
  obtain ⟨b0, b1, b2, b3, r, rfl⟩ := lenF_long (lenF_four h)
  simp only [lenF] at h ⊢
  split at h
  · rename_i hs
    split at h
    · simp at h
    · rename_i hb
      rw [if_pos hs, if_neg hb]
      have e0 : UInt8.ofNat ((b0.toNat * 256 + b1.toNat) / 256) = b0 := by
        apply UInt8.toNat_inj.1
        have := UInt8.toNat_lt b0
        have := UInt8.toNat_lt b1
        simp only [UInt8.toNat_ofNat']
        omega
      have e1 : UInt8.ofNat (b0.toNat * 256 + b1.toNat) = b1 := by
        apply UInt8.toNat_inj.1
        have := UInt8.toNat_lt b1
        simp only [UInt8.toNat_ofNat']
        omega
      simp only [hd, e0, e1, List.take_succ_cons, List.take_zero]
      rw [(byte_sum _ _).1 hs.1, (byte_sum _ _).1 hs.2]
  · simp at h
theorem takeF_none (b : List UInt8) (h : (takeF b).e ≠ 0) : (takeF b).p = [] ∧ (takeF b).n = 0 := by
  unfold takeF at h ⊢
  split
  · exact ⟨rfl, rfl⟩
  · rename_i h1
    rw [if_neg h1] at h
    split
    · exact ⟨rfl, rfl⟩
    · rename_i h2
      rw [if_neg h2] at h
      split
      · rename_i h3
        rw [if_pos h3] at h
        exact absurd rfl h
      · exact ⟨rfl, rfl⟩
theorem takeF_some (b : List UInt8) (h : (takeF b).e = 0) : (takeF b).n = (takeF b).p.length + 8 ∧ (takeF b).n ≤ b.length ∧ (takeF b).p.length ≤ 4096 := by
  have hl := lenF_le b
  unfold takeF at h ⊢
  split at h
  · rename_i h1
    exact absurd h h1
  · rename_i h1
    rw [if_neg h1]
    split at h
    · simp at h
    · rename_i h2
      rw [if_neg h2]
      split at h
      · rename_i h3
        rw [if_pos h3]
        have : ((b.drop 4).take (lenF b).1).length = (lenF b).1 := by rw [List.length_take, List.length_drop]; omega
        exact ⟨by rw [this], by show (lenF b).1 + 8 ≤ _; omega, by rw [this]; exact hl⟩
      · simp at h
theorem takeF_le (b : List UInt8) : (takeF b).p.length ≤ b.length := by
  by_cases h : (takeF b).e = 0
  · have := takeF_some b h
    omega
  · rw [(takeF_none b h).1]
    simp
/-- a payload's frame tells it, whatever stands behind -/
theorem takeF_frame (p r : List UInt8) (h : p.length ≤ 4096) : takeF (frameOf p ++ r) = ⟨p, p.length + 8, 0⟩ := by
  have e : frameOf p ++ r = hd p.length ++ (p ++ (le4 (crcOf p) ++ r)) := by simp [frameOf]
  have hl : lenF (frameOf p ++ r) = (p.length, 0) := by rw [e]; exact lenF_hd _ _ h
  have h4 : (frameOf p ++ r).drop 4 = p ++ (le4 (crcOf p) ++ r) := by rw [e]; exact List.drop_left' rfl
  have h5 : (frameOf p ++ r).drop (4 + p.length) = le4 (crcOf p) ++ r := by
    rw [← List.drop_drop, h4, List.drop_left]
  unfold takeF
  rw [hl]
  simp only
  rw [if_neg (by simp), if_neg (by rw [List.length_append, frameOf_length]; omega), h4, h5, List.take_left, List.take_left' (le4_length _), if_pos rfl]
theorem wholeF_frame (p : List UInt8) (h : p.length ≤ 4096) : wholeF (frameOf p) = (p, 0) := by
  have := takeF_frame p [] h
  rw [List.append_nil] at this
  unfold wholeF
  rw [this, if_neg (by simp), if_neg (by rw [frameOf_length]; show ¬ p.length + 8 < p.length + 8; omega)]
/-- a part of a frame isn't read -/
theorem takeF_part (p : List UInt8) (i : Nat) (h : p.length ≤ 4096) (hi : i < p.length + 8) : (takeF ((frameOf p).take i)).e = 2 := by
  have hlen : ((frameOf p).take i).length = i := by rw [List.length_take, frameOf_length]; omega
  by_cases h4 : i < 4
  · unfold takeF
    rw [lenF_short (by rw [hlen]; exact h4)]
    rfl
  · have e : (frameOf p).take i = hd p.length ++ (p ++ le4 (crcOf p)).take (i - 4) := by
      unfold frameOf
      rw [List.take_append, List.take_of_length_le (by rw [hd_length]; omega), hd_length]
    have hl : lenF ((frameOf p).take i) = (p.length, 0) := by rw [e]; exact lenF_hd _ _ h
    unfold takeF
    rw [hl]
    simp only
    rw [if_neg (by simp), if_pos (by rw [hlen]; exact hi)]
theorem take_set_ge {α : Type} (l : List α) (i k : Nat) (y : α) (h : k ≤ i) : (l.set i y).take k = l.take k := by
  rw [List.take_set, List.set_eq_of_length_le (by rw [List.length_take]; omega)]
theorem sum_ne (x y : UInt8) (h : x ≠ y) (z : UInt8) (hz : z + x = 255) : ¬ z + y = 255 := by
  intro e
  rw [(byte_sum _ _).1 hz] at h
  rw [(byte_sum _ _).1 e] at h
  exact h rfl
theorem crc_put (l : List UInt8) (k : Nat) (y : UInt8) (hk : k < l.length) (h : y ≠ l[k]) : crcOf (l.set k y) ≠ crcOf l := by
  have e1 : l = l.take k ++ l[k] :: l.drop (k + 1) := by rw [← List.drop_eq_getElem_cons hk, List.take_append_drop]
  have e2 : l.set k y = l.take k ++ y :: l.drop (k + 1) := List.set_eq_take_append_cons_drop.trans (by rw [if_pos hk])
  rw [e2]
  conv => rhs; rw [e1]
  exact crc_turned _ _ _ _ h
/-- A FRAME OF WHICH ONE BYTE IS ANOTHER ONE isn't read -/
theorem takeF_turned (p r : List UInt8) (i : Nat) (y : UInt8) (h : p.length ≤ 4096) (hi : i < (frameOf p).length) (hy : (frameOf p)[i]? ≠ some y) : (takeF ((frameOf p).set i y ++ r)).e ≠ 0 := by
  have hfl := frameOf_length p
  by_cases h4 : i < 4
  · -- the head: its bytes don't belong together any more
    have hl : (lenF ((frameOf p).set i y ++ r)).2 = 3 := by
      clear hi hfl
      have hh : frameOf p = UInt8.ofNat (p.length / 256) :: UInt8.ofNat p.length :: (255 - UInt8.ofNat (p.length / 256)) :: (255 - UInt8.ofNat p.length) :: (p ++ le4 (crcOf p)) := rfl
      rw [hh] at hy ⊢
      generalize UInt8.ofNat (p.length / 256) = a at *
      generalize UInt8.ofNat p.length = b at *
      generalize p ++ le4 (crcOf p) = q at *
      have hc : i = 0 ∨ i = 1 ∨ i = 2 ∨ i = 3 := by omega
      rcases hc with rfl | rfl | rfl | rfl
      · simp only [List.getElem?_cons_zero, ne_eq, Option.some.injEq] at hy
        simp only [List.set_cons_zero, List.cons_append, lenF]
        rw [if_neg]
        rintro ⟨e, _⟩
        rw [UInt8.add_comm] at e
        exact sum_ne a y hy (255 - a) (by rw [UInt8.sub_add_cancel]) e
      · simp only [List.getElem?_cons_succ, List.getElem?_cons_zero, ne_eq, Option.some.injEq] at hy
        simp only [List.set_cons_succ, List.set_cons_zero, List.cons_append, lenF]
        rw [if_neg]
        rintro ⟨_, e⟩
        rw [UInt8.add_comm] at e
        exact sum_ne b y hy (255 - b) (by rw [UInt8.sub_add_cancel]) e
      · simp only [List.getElem?_cons_succ, List.getElem?_cons_zero, ne_eq, Option.some.injEq] at hy
        simp only [List.set_cons_succ, List.set_cons_zero, List.cons_append, lenF]
        rw [if_neg]
        rintro ⟨e, _⟩
        exact hy ((byte_sum _ _).1 e).symm
      · simp only [List.getElem?_cons_succ, List.getElem?_cons_zero, ne_eq, Option.some.injEq] at hy
        simp only [List.set_cons_succ, List.set_cons_zero, List.cons_append, lenF]
        rw [if_neg]
        rintro ⟨_, e⟩
        exact hy ((byte_sum _ _).1 e).symm
    unfold takeF
    rw [hl]
    simp
  · -- the head stands
    have hset : (frameOf p).set i y ++ r = hd p.length ++ ((p ++ le4 (crcOf p)).set (i - 4) y ++ r) := by
      have : (frameOf p).set i y = hd p.length ++ (p ++ le4 (crcOf p)).set (i - 4) y := by
        unfold frameOf
        rw [List.set_append_right _ _ (by rw [hd_length]; omega), hd_length]
      rw [this, List.append_assoc]
    have hget : (frameOf p)[i]? = (p ++ le4 (crcOf p))[i - 4]? := by
      unfold frameOf
      rw [List.getElem?_append_right (by rw [hd_length]; omega), hd_length]
    rw [hget] at hy
    have hl : lenF ((frameOf p).set i y ++ r) = (p.length, 0) := by rw [hset]; exact lenF_hd _ _ h
    have hd4 : ((frameOf p).set i y ++ r).drop 4 = (p ++ le4 (crcOf p)).set (i - 4) y ++ r := by rw [hset]; exact List.drop_left' rfl
    unfold takeF
    rw [hl]
    simp only
    rw [if_neg (by simp), if_neg (by rw [List.length_append, List.length_set]; omega), ← List.drop_drop, hd4]
    by_cases hp : i - 4 < p.length
    · have e2 : (p ++ le4 (crcOf p)).set (i - 4) y ++ r = p.set (i - 4) y ++ (le4 (crcOf p) ++ r) := by rw [List.set_append_left _ _ hp, List.append_assoc]
      have hpl : (p.set (i - 4) y).length = p.length := List.length_set ..
      rw [e2, List.take_left' hpl, List.drop_left' hpl, List.take_left' (le4_length _), if_neg]
      · simp
      · intro e
        have := le4_inj (crc_lt _) (crc_lt _) e
        refine crc_put p (i - 4) y hp ?_ this
        rw [List.getElem?_append_left hp, List.getElem?_eq_getElem hp] at hy
        exact fun e => hy (by rw [e])
    · have e2 : (p ++ le4 (crcOf p)).set (i - 4) y ++ r = p ++ ((le4 (crcOf p)).set (i - 4 - p.length) y ++ r) := by rw [List.set_append_right _ _ (by omega), List.append_assoc]
      have hsl : ((le4 (crcOf p)).set (i - 4 - p.length) y).length = 4 := by rw [List.length_set]; rfl
      rw [e2, List.take_left, List.drop_left, List.take_left' hsl, if_neg]
      · simp
      · intro e
        rw [List.getElem?_append_right (by omega)] at hy
        have := congrArg (fun l => l[i - 4 - p.length]?) e
        simp only [List.getElem?_set_self (show i - 4 - p.length < (le4 (crcOf p)).length by rw [le4_length]; omega)] at this
        exact hy this

/-! ### all frames, one behind the other -/
/-- the payloads, where the last frame ends, and the error's number; fuel for so many bytes -/
def allF : Nat → List UInt8 → List (List UInt8) × Nat × Nat
  | 0, _ => ([], 0, 0)
  | f + 1, b => if b.length = 0 then ([], 0, 0) else if (takeF b).e ≠ 0 then ([], 0, (takeF b).e) else
    ((takeF b).p :: (allF f (b.drop (takeF b).n)).1, (takeF b).n + (allF f (b.drop (takeF b).n)).2.1, (allF f (b.drop (takeF b).n)).2.2)
theorem allF_none (f : Nat) : allF f [] = ([], 0, 0) := by cases f <;> rfl
theorem allF_end (f : Nat) (b : List UInt8) (h : 0 < b.length) (he : (takeF b).e ≠ 0) : allF (f + 1) b = ([], 0, (takeF b).e) := by
  unfold allF
  rw [if_neg (by omega), if_pos he]
theorem allF_more (f : Nat) (b : List UInt8) (h : 0 < b.length) (he : (takeF b).e = 0) : allF (f + 1) b = ((takeF b).p :: (allF f (b.drop (takeF b).n)).1, (takeF b).n + (allF f (b.drop (takeF b).n)).2.1, (allF f (b.drop (takeF b).n)).2.2) := by
  conv => lhs; unfold allF
  rw [if_neg (by omega), if_neg (by omega)]
/-- so far: ps, up to at; the rest as of the bytes from there on -/
def Upto (b : List UInt8) (ps : List (List UInt8)) (at_ : Nat) : Prop :=
  at_ ≤ b.length ∧ (ps.map List.length).sum + 8 * ps.length ≤ at_ ∧ ∃ f, b.length - at_ ≤ f ∧ (allF b.length b).1 = ps ++ (allF f (b.drop at_)).1 ∧ (allF b.length b).2.1 = at_ + (allF f (b.drop at_)).2.1 ∧ (allF b.length b).2.2 = (allF f (b.drop at_)).2.2
theorem Upto.start (b : List UInt8) : Upto b [] 0 := ⟨by omega, by simp, b.length, by omega, by simp, by simp, by simp⟩
theorem Upto.stop {b : List UInt8} {ps : List (List UInt8)} {at_ : Nat} (h : Upto b ps at_) (hl : at_ = b.length) : allF b.length b = (ps, at_, 0) := by
  obtain ⟨_, _, f, _, h1, h2, h3⟩ := h
  have hd : b.drop at_ = [] := List.drop_of_length_le (by omega)
  rw [hd, allF_none] at h1 h2 h3
  simp only [List.append_nil, Nat.add_zero] at h1 h2 h3
  exact Prod.ext h1 (Prod.ext h2 h3)
theorem Upto.fault {b : List UInt8} {ps : List (List UInt8)} {at_ : Nat} (h : Upto b ps at_) (hl : at_ < b.length) (he : (takeF (b.drop at_)).e ≠ 0) : allF b.length b = (ps, at_, (takeF (b.drop at_)).e) := by
  obtain ⟨_, _, f, hf, h1, h2, h3⟩ := h
  obtain ⟨f, rfl⟩ : ∃ k, f = k + 1 := ⟨f - 1, by omega⟩
  rw [allF_end f _ (by rw [List.length_drop]; omega) he] at h1 h2 h3
  simp only [List.append_nil, Nat.add_zero] at h1 h2 h3
  exact Prod.ext h1 (Prod.ext h2 h3)
theorem Upto.next {b : List UInt8} {ps : List (List UInt8)} {at_ : Nat} (h : Upto b ps at_) (hl : at_ < b.length) (he : (takeF (b.drop at_)).e = 0) : Upto b (ps ++ [(takeF (b.drop at_)).p]) (at_ + (takeF (b.drop at_)).n) := by
  obtain ⟨h0, hs, f, hf, h1, h2, h3⟩ := h
  obtain ⟨f, rfl⟩ : ∃ k, f = k + 1 := ⟨f - 1, by omega⟩
  obtain ⟨k1, k2, _⟩ := takeF_some _ he
  rw [List.length_drop] at k2
  rw [allF_more f _ (by rw [List.length_drop]; omega) he, List.drop_drop] at h1 h2 h3
  refine ⟨by omega, by simp only [List.map_append, List.map_cons, List.map_nil, List.sum_append, List.sum_cons, List.sum_nil, List.length_append, List.length_cons, List.length_nil]; omega, f, by omega, ?_, ?_, h3⟩
  · rw [h1]
    simp
  · rw [h2]
    simp only [Nat.add_assoc]
end Go.Proofs.Ytlggkeoihpcdiaa

/- The walks of package frame's small functions: Size, head, length; bytes.Clone. -/
namespace Go.Proofs.Ytlggkeoihpcdiaa
open Go.RowKit

theorem add_zero_map (A : Option Addr) : A.map (·.add 0) = A := by
  cases A with
  | none => rfl
  | some a => simp [Addr.add]
/-- 'b[:k]' -/
theorem slice_upto (A : Option Addr) (n c : Nat) (z : Int) (k : Nat) (hz : z = (k : Int)) (hk : k ≤ c) (W : World) :
    (Instr.slice 27 (.slice A n c) none (some (.int .i64 z)) none).run Try.prog W = .ok (.slice A k c) W := by
  subst hz
  have h := run_slice_h (P := Try.prog) (w := W) 27 A n c (by kernel_rfl) .i64 (k : Int) (by omega) (by omega)
  have hs : (sizeOf (Try.prog.elem 27)).run Try.prog W = .ok 1 W := by go_simp
  rw [h, hs]
  simp only [Result.andThen, sliced, Nat.zero_mul, add_zero_map, ite_self, Int.toNat_natCast, Nat.sub_zero]
theorem ret_i64 {a b : Int} (h : a = b) : Ending.returned (.int .i64 a) = .returned (.int .i64 b) := by rw [h]

set_option maxRecDepth 100000 in
set_option maxHeartbeats 400000 in
/-- frame.Size -/
theorem size_any (n : Int) (w : World) (h : n ≤ 4611686018427387904) :
    Calls Try.prog 101 #[.int .i64 n] w fun e w' => e = .returned (.int .i64 (max n 0 + 8)) ∧ w' = w := by
  go_enter Try.func101, Try.ntmps101
  go_wp2_with fail
  all_goals
    go_ret
    exact ⟨ret_i64 (by omega), rfl⟩

theorem hd_cells (n : Nat) : (cbs (hd n)).toArray = #[Value.int .u8 ((n : Int) / 256 % 256), Value.int .u8 ((n : Int) % 256), Value.int .u8 (255 - (n : Int) / 256 % 256), Value.int .u8 (255 - (n : Int) % 256)] := by
  have h1 : ∀ m : Nat, cb (255 - UInt8.ofNat m) = .int .u8 (255 - (m : Int) % 256) := fun m => by
    unfold cb
    have h := UInt8.toNat_sub 255 (UInt8.ofNat m)
    rw [h, UInt8.toNat_ofNat']
    have : (255 : UInt8).toNat = 255 := rfl
    rw [this]
    congr 1
    omega
  simp only [hd, cbs, List.map_cons, List.map_nil, cb_ofNat, h1]
  simp

set_option maxRecDepth 100000 in
set_option maxHeartbeats 400000 in
/-- frame.head -/
theorem head_any (n : Nat) (w : World) (_h : n ≤ 140737488355328) :
    Calls Try.prog 115 #[.int .i64 (n : Int)] w fun e w' => e = .returned (.slice (some ⟨w.heap.size, 0, none⟩) 4 4) ∧ w' = w.alloc (.cells (cbs (hd n)).toArray 5) := by
  rw [hd_cells]
  go_enter Try.func115, Try.ntmps115
  go_wp2_with fail
  go_ret
  exact ⟨rfl, rfl⟩

set_option maxRecDepth 100000 in
set_option maxHeartbeats 400000 in
/-- bytes.Clone -/
theorem bclone_any (A : Option Addr) (n c : Nat) (l : List UInt8) (B : Nat) (w : World) (hs : Sees w B A n (cbs l)) (hB : B ≤ w.heap.size) (hn : n ≤ 140737488355328) :
    Calls Try.prog 102 #[.slice A n c] w fun e w' => ∃ A' c', e = .returned (.slice A' n c') ∧ Free w' w.heap.size 5 A' n c' (cbs l) ∧ Below w.heap.size w w' := by
  obtain ⟨i0, hi0, hz0, hz1, hz2⟩ := info_parts u8_row
  rcases A with _ | a
  · have hn0 : n = 0 := by
      rcases Nat.eq_zero_or_pos n with h | h
      · exact h
      · obtain ⟨_, _, h1, _⟩ := hs.2 h
        cases h1
    subst hn0
    have hl0 : l = [] := List.eq_nil_of_length_eq_zero (by have := hs.1; simpa using this)
    subst hl0
    have heq := fun W => Lib.run_eql_slice_nil (P := Try.prog) W 27 5 none 0 c 0 0 sl_u8
    go_enter Try.func102, Try.ntmps102
    go_wp2_with fail
    go_ret
    exact ⟨none, 0, rfl, Free.nil _ _ _, Below.refl _ _⟩
  · have heq := fun W => Lib.run_eql_slice_nil (P := Try.prog) W 27 5 (some a) n c 0 0 sl_u8
    go_enter Try.func102, Try.ntmps102
    have hc1 : 0 + n ≤ maxLen := by rw [Nat.zero_add]; exact Nat.le_trans hn (by decide)
    have hc2 : (0 + n) * 1 ≤ 140737488355328 := by rw [Nat.mul_one, Nat.zero_add]; exact hn
    have hown : (w.alloc (.cells #[] 5)).ownsRow w.heap.size 5 1 (.slice (some ⟨w.heap.size, 0, none⟩) 0 0) 0 [] := World.ownsRow_made w _ 0 (Nat.le_refl _) (by decide) rfl
    go_wp2_with (at_builtin; refine wpList_append_sees _ rfl (.tmp 5) (.tmp 6) _ rfl w.heap.size 5 i0 _ 1 sl_u8 hi0 hz0 hz1 hz2 rfl (.slice (some ⟨w.heap.size, 0, none⟩) 0 0) 0 [] rfl hown B (some a) n c (cbs l) rfl (hs.alloc hB _) (cbs_one l) hc1 hc2 (by simp) ?_; intro v2 w2 hown2 hg2 hat2)
    go_ret
    rw [Nat.zero_add, List.nil_append] at hown2
    obtain ⟨A2, c2, rfl, _, _⟩ := own_form hown2
    exact ⟨A2, c2, rfl, Free.of_own hown2, ((Below.refl _ _).alloc (Nat.le_refl _) _).grown hg2 (by simp) (fun g hg => by simp [Value.ownBlock] at hg; omega)⟩

theorem i64_or_nat (a b : Nat) (ha : a < 9223372036854775808) (hb : b < 9223372036854775808) : bits .or .i64 (a : Int) (b : Int) = ((a ||| b : Nat) : Int) := by
  have hx : a ||| b < 2 ^ 63 := Nat.or_lt_two_pow (by omega) (by omega)
  show IntKind.i64.wrap ((BitVec.ofInt 64 (a : Int) ||| BitVec.ofInt 64 (b : Int)).toNat : Int) = _
  rw [BitVec.toNat_or, ofInt_u64 a (by omega), ofInt_u64 b (by omega), IntKind.wrap_i64]
  omega
/-- the operation of a head: shifted, and the next byte laid in -/
theorem shl_or_int (a x : UInt8) : bits BinOp.or IntKind.i64 (wrap64 (wrap64 (a.toNat : Int) * 256)) (wrap64 (x.toNat : Int)) = ((a.toNat * 256 + x.toNat : Nat) : Int) := by
  have ha : a.toNat < 256 := UInt8.toNat_lt a
  have hx : x.toNat < 256 := UInt8.toNat_lt x
  have h1 : wrap64 (wrap64 (a.toNat : Int) * 256) = ((a.toNat * 256 : Nat) : Int) := by unfold wrap64; omega
  have h2 : wrap64 (x.toNat : Int) = ((x.toNat : Nat) : Int) := by unfold wrap64; omega
  rw [h1, h2, i64_or_nat _ _ (by omega) (by omega), shl_or_byte]
theorem head_same (b0 b1 b2 b3 : UInt8) (N : Nat) (h : b0.toNat * 256 + b1.toNat = N) : ([b0, b1, b2, b3] == hd N) = decide (b0 + b2 = 255 ∧ b1 + b3 = 255) := by
  have e0 : UInt8.ofNat (N / 256) = b0 := by
    apply UInt8.toNat_inj.1
    have := UInt8.toNat_lt b0
    have := UInt8.toNat_lt b1
    simp only [UInt8.toNat_ofNat']
    omega
  have e1 : UInt8.ofNat N = b1 := by
    apply UInt8.toNat_inj.1
    have := UInt8.toNat_lt b1
    simp only [UInt8.toNat_ofNat']
    omega
  rw [Bool.eq_iff_iff, beq_iff_eq, decide_eq_true_iff, byte_sum, byte_sum]
  unfold hd
  rw [e0, e1]
  simp

set_option maxRecDepth 100000 in
set_option maxHeartbeats 400000 in
/-- frame.length -/
theorem length_any (A : Option Addr) (n c : Nat) (l : List UInt8) (B : Nat) (w : World) (hs : Sees w B A n (cbs l)) (hB : B ≤ w.heap.size) (hc : n ≤ c) (hm : c ≤ maxLen) :
    Calls Try.prog 128 #[.slice A n c] w fun e w' => e = .returned (.tuple #[.int .i64 ((lenF l).1 : Int), .int .i64 ((lenF l).2 : Int)]) ∧ Below w.heap.size w w' := by
  have hlen : l.length = n := by have := hs.1; simpa using this
  have hm9 : c ≤ 9223372036854775807 := hm
  clear hm
  by_cases h4 : n < 4
  · have hz : (n : Int) < 4 := by omega
    rw [lenF_short (by omega)]
    go_enter Try.func128, Try.ntmps128
    go_wp2_with fail
    go_ret2
    exact ⟨rfl, Below.refl _ _⟩
  · have hz : ¬ (n : Int) < 4 := by omega
    have hHd := hs.take (k := 4) (by omega)
    obtain ⟨b0, b1, b2, b3, r, rfl⟩ := lenF_long (b := l) (by omega)
    obtain ⟨b, off, u, rfl, hb, hu, c0⟩ := hs.at_ (k := 0) (by omega)
    obtain ⟨b', off', u', hA, _, hu', c1⟩ := hs.at_ (k := 1) (by omega)
    injection hA with hA
    injection hA with e1 e2
    subst e1
    subst e2
    have hu0 : cb b0 = u := by simpa [cbs] using hu
    have hu1 : cb b1 = u' := by simpa [cbs] using hu'
    subst hu0
    subst hu1
    unfold cb at c0 c1
    rw [Nat.add_zero] at c0
    have ho := shl_or_int b0 b1
    have hsame := head_same b0 b1 b2 b3 _ rfl
    have hle : b0.toNat * 256 + b1.toNat ≤ 65535 := by have := UInt8.toNat_lt b0; have := UInt8.toNat_lt b1; omega
    have hlenF : lenF (b0 :: b1 :: b2 :: b3 :: r) = if b0 + b2 = 255 ∧ b1 + b3 = 255 then (if 4096 < b0.toNat * 256 + b1.toNat then (0, 4) else (b0.toNat * 256 + b1.toNat, 0)) else (0, 3) := rfl
    generalize b0.toNat * 256 + b1.toNat = N at *
    generalize lenF (b0 :: b1 :: b2 :: b3 :: r) = LF at *
    have HSM := Lib.hid hsame
    have HLF := Lib.hid hlenF
    clear hsame hlenF
    have hk1 : 1 < n := by omega
    have hk0 : 0 < n := by omega
    have hk4 : 4 ≤ c := by omega
    clear hu hu' hlen
    go_enter Try.func128, Try.ntmps128
    go_wp2_with fail
    go_quiet (fail)
    have hs1 := (hs.drewN nq).take (k := 4) (by omega)
    have hb1 := below_drewN (Below.refl w.heap.size w) nq
    have hB1 : B ≤ (w.drewN nq).heap.size := hB
    have hd1 : List.take 4 (cbs (b0 :: b1 :: b2 :: b3 :: r)) = cbs [b0, b1, b2, b3] := rfl
    rw [hd1] at hs1
    clear c0 c1 hs hHd hd1
    generalize w.drewN nq = w1 at *
    clear ho
    generalize [b0, b1, b2, b3] = four at *
    go_upto_region 4 with (fail)
    go_cut [23] (fun t wx => t = .bool (!(four == hd N)) ∧ Below w.heap.size w wx)
    case first =>
      have hd2 := hb1.drew
      go_region_with (first
        | (go_at_call 115; refine (head_any N _ (by omega)).mono ?_; rintro e w2 ⟨rfl, rfl⟩)
        | (go_at_call 142; refine (equal_any _ _ 4 c 4 4 four (hd N) B _ _ (hs1.drew.alloc hB1 _) (sees_new _ _ _)).mono ?_; rintro e w3 ⟨rfl, rfl⟩))
      all_goals
        go_wp2_with fail
        go_meet
        exact ⟨rfl, hd2.alloc hd2.size _⟩
    case rest =>
      obtain ⟨rfl, hbc⟩ := hcut
      have hlf := HLF.out
      have hsm := HSM.out
      clear HLF hs1 hb1 hB1 HSM
      generalize (four == hd N) = q at *
      by_cases hgood : b0 + b2 = 255 ∧ b1 + b3 = 255
      · rw [if_pos hgood] at hlf
        have hq : q = true := by rw [hsm]; exact decide_eq_true hgood
        subst hq
        clear hsm hgood
        by_cases h9 : 4096 < N
        · have h9' : (4096 : Int) < (N : Int) := by omega
          rw [if_pos h9] at hlf
          subst hlf
          go_wp2_with fail
          go_ret2
          exact ⟨rfl, hbc⟩
        · have h9' : ¬ (4096 : Int) < (N : Int) := by omega
          rw [if_neg h9] at hlf
          subst hlf
          go_wp2_with fail
          go_ret2
          exact ⟨rfl, hbc⟩
      · rw [if_neg hgood] at hlf
        have hq : q = false := by rw [hsm]; exact decide_eq_false hgood
        subst hq
        clear hsm hgood
        subst hlf
        go_wp2_with fail
        go_ret2
        exact ⟨rfl, hbc⟩
end Go.Proofs.Ytlggkeoihpcdiaa

/- The walks of package log: what only reads; and New. -/
namespace Go.Proofs.Ytlggkeoihpcdiaa
open Go.RowKit

theorem ent_row : (Try.prog.info? 73).map (fun i => (i.zero, i.size, i.bytes)) = some (some (.agg #[.int .i64 0, .string ⟨#[]⟩]), 2, 24) := by kernel_rfl
theorem sl_ent : Try.prog.underlying 23 = some (.slice 73) := Try.underlying23

set_option maxRecDepth 100000 in
set_option maxHeartbeats 400000 in
/-- slices.Clone of entries -/
theorem eclone_any (A : Option Addr) (n c : Nat) (es : List Ent) (w : World) (hs : Ents w w.heap.size A es) (hl : es.length = n) (hn : n ≤ 1099511627776) :
    Calls Try.prog 77 #[.slice A n c] w fun e w' => ∃ A' c', e = .returned (.slice A' n c') ∧ FreeN 2 w' w.heap.size 73 A' n c' (ecs es) ∧ Below w.heap.size w w' := by
  obtain ⟨i0, hi0, hz0, hz1, hz2⟩ := info_parts ent_row
  subst hl
  rcases A with _ | a
  · have hn0 : es = [] := by
      cases es with
      | nil => rfl
      | cons e es =>
        obtain ⟨_, _, h1, _⟩ := hs.at_ (j := 0) (by simp)
        cases h1
    subst hn0
    have heq := fun W => Lib.run_eql_slice_nil (P := Try.prog) W 23 73 none 0 c 0 0 sl_ent
    go_enter Try.func77, Try.ntmps77
    go_wp2_with fail
    go_ret
    exact ⟨none, 0, rfl, FreeN.nil _ _ _ _, Below.refl _ _⟩
  · have heq := fun W => Lib.run_eql_slice_nil (P := Try.prog) W 23 73 (some a) es.length c 0 0 sl_ent
    go_enter Try.func77, Try.ntmps77
    have hc1 : 0 + es.length ≤ maxLen := by rw [Nat.zero_add]; exact Nat.le_trans hn (by decide)
    have hc2 : (0 + es.length) * 24 ≤ 140737488355328 := by omega
    have hown : FreeN 2 (w.alloc (.cells #[] 73)) w.heap.size 73 (some ⟨w.heap.size, 0, none⟩) 0 0 [] := FreeN.of_own (World.ownsRow_made w _ 0 (Nat.le_refl _) (by decide) rfl)
    go_wp2_with (at_builtin; refine wpList_append_freeN (sz := 2) _ rfl (.tmp 5) (.tmp 6) _ rfl w.heap.size 73 i0 _ 24 sl_ent hi0 hz0 hz1 hz2 rfl (by omega) (some ⟨w.heap.size, 0, none⟩) 0 0 [] rfl hown w.heap.size (some a) es.length c (ecs es) rfl (Sees.alloc hs (Nat.le_refl _) _) (ecs_one es) hc1 hc2 (by simp) ?_; intro A2 c2 w2 ha2; rw [Nat.zero_add])
    go_ret
    obtain ⟨hf2, hg2, _⟩ := ha2
    rw [Nat.zero_add, List.nil_append] at hf2
    refine ⟨A2, c2, rfl, hf2, ((Below.refl _ _).alloc (Nat.le_refl _) _).grown hg2 (by simp) (fun g hg => ?_)⟩
    simp [foot] at hg

/-- the log that lies in block g; f: the block of its entries that may be written, if any -/
def LogAt (w : World) (base g : Nat) (f : Option Nat) (es : List Ent) : Prop :=
  ∃ A c, Blk w g 131 #[.slice A es.length c] ∧ base ≤ g ∧ FreeN 2 w base 73 A es.length c (ecs es) ∧ f = foot A c
section
variable {w w' : World} {base g : Nat} {f : Option Nat} {es : List Ent}
theorem LogAt.lt (h : LogAt w base g f es) : g < w.heap.size := by
  obtain ⟨A, c, h1, _⟩ := h
  exact h1.lt
theorem LogAt.base_le (h : LogAt w base g f es) : base ≤ g := by
  obtain ⟨A, c, _, h1, _⟩ := h
  exact h1
theorem LogAt.foot_at (h : LogAt w base g f es) : ∀ k, f = some k → base ≤ k ∧ ∃ cur, Blk w k 73 cur := by
  obtain ⟨A, c, _, _, h3, rfl⟩ := h
  exact h3.foot_at
theorem LogAt.keep (h : LogAt w base g f es) (hg : w'.heap[g]? = w.heap[g]?) (hk : ∀ k, f = some k → w'.heap[k]? = w.heap[k]?) : LogAt w' base g f es := by
  obtain ⟨A, c, h1, h2, h3, rfl⟩ := h
  exact ⟨A, c, hg.trans h1, h2, h3.keep hk, rfl⟩
theorem LogAt.on (h : LogAt w base g f es) (hb : Below w.heap.size w w') : LogAt w' base g f es :=
  h.keep (hb.block _ h.lt) (fun k hk => by obtain ⟨_, _, hB⟩ := h.foot_at k hk; exact hb.block _ hB.lt)
theorem LogAt.drew (h : LogAt w base g f es) : LogAt w.drew base g f es := h
theorem LogAt.grown {row : Option Nat} (h : LogAt w base g f es) (hg : w.grownBy w' row) (h1 : some g ≠ row) (h2 : ∀ k, f = some k → some k ≠ row) : LogAt w' base g f es :=
  h.keep (hg.block _ h.lt h1) (fun k hk => by obtain ⟨_, _, hB⟩ := h.foot_at k hk; exact hg.block _ hB.lt (h2 k hk))
theorem LogAt.mono {base' : Nat} (h : LogAt w base g f es) (hb : base' ≤ base) : LogAt w base' g f es := by
  obtain ⟨A, c, h1, h2, h3, rfl⟩ := h
  exact ⟨A, c, h1, by omega, h3.mono hb, rfl⟩
end

set_option maxRecDepth 100000 in
set_option maxHeartbeats 400000 in
/-- log.New -/
theorem lNew_any (A : Option Addr) (n c : Nat) (es : List Ent) (w : World) (hs : Ents w w.heap.size A es) (hl : es.length = n) (hn : n ≤ 1099511627776) :
    Calls Try.prog 52 #[.slice A n c] w fun e w' => ∃ g f, e = .returned (.pointer (some ⟨g, 0, none⟩)) ∧ LogAt w' w.heap.size g f es ∧ Below w.heap.size w w' := by
  have HB := Lib.hid (eclone_any A n c es w hs hl hn)
  clear hs
  go_enter Try.func52, Try.ntmps52
  go_wp2_with (go_at_call 77; refine HB.out.mono ?_; rintro e w1 ⟨A1, c1, rfl, hf1, hb1⟩)
  go_ret
  have hb2 := hb1.alloc hb1.size (.cells #[.slice A1 n c1] 131)
  refine ⟨w1.heap.size, foot A1 c1, rfl, ⟨A1, c1, by rw [hl]; exact Blk.new w1 _ _, hb1.size, by rw [hl]; exact hf1.on ((Below.refl _ _).alloc (Nat.le_refl _) _), rfl⟩, hb2⟩

set_option maxRecDepth 100000 in
set_option maxHeartbeats 800000 in
/-- (*log.Log).Term -/
theorem lTerm_any (base g : Nat) (f : Option Nat) (es : List Ent) (i : Int) (w : World) (h : LogAt w base g f es) (hn : es.length ≤ 1099511627776) :
    Calls Try.prog 92 #[.pointer (some ⟨g, 0, none⟩), .int .i64 i] w fun e w' => e = .returned (.tuple #[.int .i64 (termF es i).1, .bool (termF es i).2]) ∧ w' = w := by
  obtain ⟨A, c, hb, _, hf, _⟩ := h
  have c0 : w.cell? ⟨g, 0, none⟩ = some (.slice A es.length c) := by rw [hb.cell]; rfl
  have hs : Ents w w.heap.size A es := hf.sees
  clear hb hf
  by_cases h1 : i < 0
  · rw [termF_out (.inl h1)]
    clear hs
    go_enter Try.func92, Try.ntmps92
    go_wp2_with fail
    go_ret2
    exact ⟨rfl, rfl⟩
  · by_cases h2 : (es.length : Int) < i
    · rw [termF_out (.inr h2)]
      clear hs
      go_enter Try.func92, Try.ntmps92
      go_wp2_with fail
      go_ret2
      exact ⟨rfl, rfl⟩
    · by_cases h3 : i = 0
      · subst h3
        rw [termF_zero]
        clear hs
        go_enter Try.func92, Try.ntmps92
        go_wp2_with fail
        go_ret2
        exact ⟨rfl, rfl⟩
      · obtain ⟨j, hj⟩ : ∃ j : Nat, i = (j : Int) + 1 := ⟨(i - 1).toNat, by omega⟩
        subst hj
        have hjl : j < es.length := by omega
        rw [termF_at hjl]
        obtain ⟨b, off, rfl, _, d0, _⟩ := hs.at_ hjl
        have hj1 : (j : Int) + 1 - 1 = (j : Int) := by omega
        have hw : wrap64 (j : Int) = (j : Int) := by unfold wrap64; omega
        have hjl' : (j : Int) < (es.length : Int) := by omega
        clear hs
        generalize es[j] = x at *
        generalize es.length = n at *
        clear hn
        go_enter Try.func92, Try.ntmps92
        go_wp2_with fail
        go_ret2
        exact ⟨rfl, rfl⟩

set_option maxRecDepth 100000 in
theorem lTerm_nil (i : Int) (w : World) :
    Calls Try.prog 92 #[.pointer none, .int .i64 i] w fun e w' => e = .returned (.tuple #[.int .i64 0, .bool false]) ∧ w' = w := by
  go_enter Try.func92, Try.ntmps92
  go_wp2_with fail
  go_ret2
  exact ⟨rfl, rfl⟩

set_option maxRecDepth 100000 in
set_option maxHeartbeats 400000 in
/-- (*log.Log).Last -/
theorem lLast_any (base g : Nat) (f : Option Nat) (es : List Ent) (w : World) (h : LogAt w base g f es) (hn : es.length ≤ 1099511627776) :
    Calls Try.prog 62 #[.pointer (some ⟨g, 0, none⟩)] w fun e w' => e = .returned (.tuple #[.int .i64 (es.length : Int), .int .i64 (lastT es)]) ∧ w' = w := by
  have HT := Lib.hid (lTerm_any base g f es es.length w h hn)
  obtain ⟨A, c, hb, _⟩ := h
  have c0 : w.cell? ⟨g, 0, none⟩ = some (.slice A es.length c) := by rw [hb.cell]; rfl
  clear hb
  go_enter Try.func62, Try.ntmps62
  go_wp2_with fail
  refine HT.out.mono ?_
  rintro e w1 ⟨rfl, rfl⟩
  go_wp2_with fail
  go_ret2
  exact ⟨rfl, rfl⟩
set_option maxRecDepth 100000 in
theorem lLast_nil (w : World) :
    Calls Try.prog 62 #[.pointer none] w fun e w' => e = .returned (.tuple #[.int .i64 0, .int .i64 0]) ∧ w' = w := by
  go_enter Try.func62, Try.ntmps62
  go_wp2_with fail
  go_ret2
  exact ⟨rfl, rfl⟩

set_option maxRecDepth 100000 in
set_option maxHeartbeats 400000 in
/-- (*log.Log).All -/
theorem lAll_any (base g : Nat) (f : Option Nat) (es : List Ent) (w : World) (h : LogAt w base g f es) (hn : es.length ≤ 1099511627776) :
    Calls Try.prog 63 #[.pointer (some ⟨g, 0, none⟩)] w fun e w' => ∃ A c, e = .returned (.slice A es.length c) ∧ FreeN 2 w' w.heap.size 73 A es.length c (ecs es) ∧ Below w.heap.size w w' := by
  obtain ⟨A, c, hb, _, hf, _⟩ := h
  have c0 : w.cell? ⟨g, 0, none⟩ = some (.slice A es.length c) := by rw [hb.cell]; rfl
  have HB := Lib.hid (eclone_any A es.length c es w hf.sees rfl hn)
  clear hb hf
  go_enter Try.func63, Try.ntmps63
  go_wp2_with (go_at_call 77; refine HB.out.mono ?_; rintro e w1 ⟨A1, c1, rfl, hf1, hb1⟩)
  go_ret
  exact ⟨A1, c1, rfl, hf1, hb1⟩
set_option maxRecDepth 100000 in
theorem lAll_nil (w : World) :
    Calls Try.prog 63 #[.pointer none] w fun e w' => e = .returned (.slice none 0 0) ∧ w' = w := by
  go_enter Try.func63, Try.ntmps63
  go_wp2_with fail
  go_ret
  exact ⟨rfl, rfl⟩

set_option maxRecDepth 100000 in
set_option maxHeartbeats 400000 in
/-- (*log.Log).Younger -/
theorem lYounger_any (base g : Nat) (f : Option Nat) (es : List Ent) (i t : Int) (w : World) (h : LogAt w base g f es) (hn : es.length ≤ 1099511627776) :
    Calls Try.prog 82 #[.pointer (some ⟨g, 0, none⟩), .int .i64 i, .int .i64 t] w fun e w' => e = .returned (.bool (youngF es i t)) ∧ w' = w := by
  have HT := Lib.hid (lLast_any base g f es w h hn)
  clear h
  unfold youngF
  generalize lastT es = q at *
  generalize (es.length : Int) = n at *
  by_cases h1 : q < t
  · simp only [decide_eq_true h1, Bool.true_or]
    go_enter Try.func82, Try.ntmps82
    go_wp2_with fail
    refine HT.out.mono ?_
    rintro e w1 ⟨rfl, rfl⟩
    go_wp2_with fail
    go_ret
    exact ⟨rfl, rfl⟩
  · simp only [decide_eq_false h1, Bool.false_or]
    by_cases h2 : t = q
    · subst h2
      simp only [decide_true, Bool.true_and]
      go_enter Try.func82, Try.ntmps82
      go_wp2_with fail
      refine HT.out.mono ?_
      rintro e w1 ⟨rfl, rfl⟩
      go_wp2_with fail
      go_ret
      exact ⟨rfl, rfl⟩
    · have h2' : (t == q) = false := by rw [beq_eq_false_iff_ne]; exact h2
      simp only [decide_eq_false h2, Bool.false_and]
      go_enter Try.func82, Try.ntmps82
      go_wp2_with fail
      refine HT.out.mono ?_
      rintro e w1 ⟨rfl, rfl⟩
      go_wp2_with fail
      go_ret
      exact ⟨by show Ending.returned (.bool (decide (q < t))) = _; rw [decide_eq_false (show ¬ q < t by omega)], rfl⟩
set_option maxRecDepth 100000 in
theorem lYounger_nil (i t : Int) (w : World) :
    Calls Try.prog 82 #[.pointer none, .int .i64 i, .int .i64 t] w fun e w' => e = .returned (.bool false) ∧ w' = w := by
  go_enter Try.func82, Try.ntmps82
  go_wp2_with fail
  go_ret
  exact ⟨rfl, rfl⟩
end Go.Proofs.Ytlggkeoihpcdiaa

/- The walks of package log: From, and what changes a log. -/
namespace Go.Proofs.Ytlggkeoihpcdiaa
open Go.RowKit

theorem ent_size (W : World) : (sizeOf (Try.prog.elem 23)).run Try.prog W = .ok 2 W := by go_simp
/-- 's[k:h]' -/
theorem ents_part (A : Option Addr) (n c k h : Nat) (z y : Int) (hz : z = (k : Int)) (hy : y = (h : Int)) (hk : k ≤ h) (hh : h ≤ c) (W : World) :
    (Instr.slice 23 (.slice A n c) (some (.int .i64 z)) (some (.int .i64 y)) none).run Try.prog W = .ok (.slice (if c = k then A else A.map (·.add (k * 2))) (h - k) (c - k)) W := by
  subst hz
  subst hy
  have hr := run_slice_lh (P := Try.prog) (w := W) 23 A n c (by kernel_rfl) .i64 .i64 (k : Int) (h : Int) (by omega) (by omega) (by omega)
  rw [hr, ent_size]
  simp only [Result.andThen, sliced, Int.toNat_natCast]
/-- 's[k:]' -/
theorem ents_from (A : Option Addr) (n c k : Nat) (z : Int) (hz : z = (k : Int)) (hk : k ≤ n) (W : World) :
    (Instr.slice 23 (.slice A n c) (some (.int .i64 z)) none none).run Try.prog W = .ok (.slice (if c = k then A else A.map (·.add (k * 2))) (n - k) (c - k)) W := by
  subst hz
  have hr := run_slice_l (P := Try.prog) (w := W) 23 A n c (by kernel_rfl) .i64 (k : Int) (by omega) (by omega)
  rw [hr, ent_size]
  simp only [Result.andThen, sliced, Int.toNat_natCast]
/-- 's[:k]' -/
theorem ents_upto (A : Option Addr) (n c k : Nat) (z : Int) (hz : z = (k : Int)) (hk : k ≤ c) (W : World) :
    (Instr.slice 23 (.slice A n c) none (some (.int .i64 z)) none).run Try.prog W = .ok (.slice A k c) W := by
  subst hz
  have hr := run_slice_h (P := Try.prog) (w := W) 23 A n c (by kernel_rfl) .i64 (k : Int) (by omega) (by omega)
  rw [hr, ent_size]
  simp only [Result.andThen, sliced, Nat.zero_mul, add_zero_map, ite_self, Int.toNat_natCast, Nat.sub_zero]
/-- 's[:k:k]' -/
theorem ents_cut (A : Option Addr) (n c k : Nat) (z : Int) (hz : z = (k : Int)) (hk : k ≤ c) (W : World) :
    (Instr.slice 23 (.slice A n c) none (some (.int .i64 z)) (some (.int .i64 z))).run Try.prog W = .ok (.slice A k k) W := by
  subst hz
  have hr := run_slice_hm (P := Try.prog) (w := W) 23 A n c (by kernel_rfl) .i64 .i64 (k : Int) (k : Int) (by omega) (by omega) (by omega)
  rw [hr, ent_size]
  simp only [Result.andThen, sliced, Nat.zero_mul, add_zero_map, ite_self, Int.toNat_natCast, Nat.sub_zero]

theorem fromN_nat (n : Nat) (i m : Int) : ∃ k h : Nat, (fromN n i m).1 = k ∧ (fromN n i m).2 = h ∧ k + h ≤ n := by
  unfold fromN
  exact ⟨(min (max i 1 - 1) (n : Int)).toNat, (min (max m 0) ((n : Int) - min (max i 1 - 1) n)).toNat, by omega, by simp only; omega, by omega⟩

/-- new entries are answered -/
def EntsRet (w : World) (r : List Ent) (e : Ending) (w' : World) : Prop :=
  ∃ A n c, e = .returned (.slice A n c) ∧ r.length = n ∧ FreeN 2 w' w.heap.size 73 A n c (ecs r) ∧ Below w.heap.size w w'

set_option maxRecDepth 100000 in
set_option maxHeartbeats 800000 in
/-- (*log.Log).From -/
theorem lFrom_any (base g : Nat) (f : Option Nat) (es : List Ent) (i m : Int) (w : World) (h : LogAt w base g f es) (hn : es.length ≤ 1099511627776) (hi : i < 9223372036854775808) :
    Calls Try.prog 64 #[.pointer (some ⟨g, 0, none⟩), .int .i64 i, .int .i64 m] w (EntsRet w (fromF es i m)) := by
  obtain ⟨A, c, hb, _, hf, _⟩ := h
  have c0 : w.cell? ⟨g, 0, none⟩ = some (.slice A es.length c) := by rw [hb.cell]; rfl
  obtain ⟨k, q, hk, hq, hkq⟩ := fromN_nat es.length i m
  have hsl := fun W => ents_part A es.length c k (k + q) (k : Int) ((k : Int) + (q : Int)) rfl (by omega) (by omega) (Nat.le_trans hkq hf.2.1) W
  have hnc : es.length ≤ c := hf.2.1
  have hs1 : Ents w w.heap.size (if c = k then A else A.map (·.add (k * 2))) (es.drop k) := Ents.drop hf.sees rfl (by omega) hnc
  have hs2 := hs1.take (k := q) (by rw [List.length_drop]; omega)
  have hF : fromF es i m = (es.drop k).take q := by unfold fromF; rw [hk, hq, Int.toNat_natCast, Int.toNat_natCast]
  have hlF : ((es.drop k).take q).length = q := by rw [List.length_take, List.length_drop]; omega
  rw [hF]
  have e0 : k + q - k = q := by omega
  rw [e0] at hsl
  have HB := Lib.hid (fun c' => eclone_any _ q c' _ w hs2 hlF (by omega))
  have HLF := Lib.hid hlF
  unfold fromN at hk hq
  simp only at hk hq
  rw [hk] at hq
  have hw1 : IntKind.i64.wrap ((es.length : Int) - (k : Int)) = (es.length : Int) - (k : Int) := by rw [IntKind.wrap_i64]; omega
  have hw2 : IntKind.i64.wrap ((k : Int) + (q : Int)) = (k : Int) + (q : Int) := by rw [IntKind.wrap_i64]; omega
  have hw3 : IntKind.i64.wrap ((if i < 1 then 1 else i) - 1) = (if i < 1 then 1 else i) - 1 := by rw [IntKind.wrap_i64]; split <;> omega
  clear hb hf hs1 hs2 hF hlF
  generalize (if c = k then A else A.map (·.add (k * 2))) = A1 at *
  have hif1 : (if (es.length : Int) < (if i < 1 then 1 else i) - 1 then (es.length : Int) else (if i < 1 then 1 else i) - 1) = (k : Int) := by split <;> split at * <;> omega
  have hif2 : (if (es.length : Int) - (k : Int) < (if m < 0 then 0 else m) then (es.length : Int) - (k : Int) else (if m < 0 then 0 else m)) = (q : Int) := by split <;> split at * <;> omega
  clear hk hq hnc hkq e0 hn hi
  go_enter Try.func64, Try.ntmps64
  go_wp2_with (go_at_call 77; refine (HB.out _).mono ?_; rintro e w1 ⟨A2, c2, rfl, hf1, hb1⟩)
  all_goals
    go_ret
    exact ⟨A2, q, c2, rfl, HLF.out, hf1, hb1⟩
set_option maxRecDepth 100000 in
theorem lFrom_nil (i m : Int) (w : World) :
    Calls Try.prog 64 #[.pointer none, .int .i64 i, .int .i64 m] w fun e w' => e = .returned (.slice none 0 0) ∧ w' = w := by
  go_enter Try.func64, Try.ntmps64
  go_wp2_with fail
  go_ret
  exact ⟨rfl, rfl⟩

/-- entries' row lies in another block than the log -/
theorem foot_far {w : World} {base g n c : Nat} {A : Option Addr} {xs cs : List Value} (hb : Blk w g 131 cs.toArray) (h : FreeN 2 w base 73 A n c xs) : ∀ k, foot A c = some k → k ≠ g := by
  intro k hk
  obtain ⟨_, cur, hB⟩ := h.foot_at k hk
  exact hB.apart hb (by decide)

/-- what changes a log -/
def LogMoves (w : World) (base g : Nat) (f : Option Nat) (es : List Ent) (w' : World) : Prop :=
  ∃ f', LogAt w' base g f' es ∧ Moved g f w w' ∧ (f' = f ∨ f' = none ∨ ∃ k, f' = some k ∧ w.heap.size ≤ k)

set_option maxRecDepth 100000 in
set_option maxHeartbeats 800000 in
/-- (*log.Log).cut -/
theorem lCut_any (base g : Nat) (f : Option Nat) (es : List Ent) (k : Nat) (w : World) (h : LogAt w base g f es) (hk : k ≤ es.length) :
    Calls Try.prog 124 #[.pointer (some ⟨g, 0, none⟩), .int .i64 (k : Int)] w fun e w' => e = .returned (.tuple #[]) ∧ ∃ f', LogAt w' base g f' (es.take k) ∧ Moved g none w w' ∧ (f' = f ∨ f' = none) := by
  have HD := Lib.hid h
  obtain ⟨A, c, hb, hg, hf, rfl⟩ := h
  have c0 : w.cell? ⟨g, 0, none⟩ = some (.slice A es.length c) := by rw [hb.cell]; rfl
  have f0 := hb.frozen 0
  by_cases hlt : k < es.length
  · have hlt' : (k : Int) < (es.length : Int) := by omega
    have hkc : k ≤ c := by have := hf.2.1; omega
    have hsl := fun W => ents_cut A es.length c k (k : Int) rfl hkc W
    have HB := Lib.hid (hb.set_ 0 (.slice A k k))
    have hfc := hf.cut hk
    rw [ecs_take] at hfc
    have hfr := fun q hq => foot_far (cs := [.slice A es.length c]) hb hf q hq
    have hfk : foot A k = foot A c ∨ foot A k = none := foot_cut A c k hkc
    have HF := Lib.hid (hfc.far (p := ⟨g, 0, none⟩) (fun q hq => by
      rcases hfk with h | h
      · exact hfr q (by rw [← h]; exact hq)
      · rw [h] at hq; cases hq) (.slice A k k))
    have HFK := Lib.hid hfk
    have HG := Lib.hid hg
    have hl : (es.take k).length = k := by rw [List.length_take]; omega
    have HL := Lib.hid hl
    clear hb hf hfc hfr hfk hg hl HD hk hkc hlt
    go_enter Try.func124, Try.ntmps124
    go_wp2_with fail
    go_end0
    exact ⟨rfl, foot A k, ⟨A, k, by rw [HL.out]; exact HB.out, HG.out, by rw [HL.out]; exact HF.out, rfl⟩, (Moved.refl g _ w).set_ 0 _, HFK.out⟩
  · have hlt' : ¬ (k : Int) < (es.length : Int) := by omega
    have e : es.take k = es := List.take_of_length_le (by omega)
    rw [e]
    clear hb hf e hk hlt
    go_enter Try.func124, Try.ntmps124
    go_wp2_with fail
    go_end0
    exact ⟨rfl, _, HD.out, Moved.refl _ _ _, .inl rfl⟩

/-- behind both: what changes a log, and then again -/
theorem LogMoves.then_ {w w1 w2 : World} {base g : Nat} {f : Option Nat} {es1 es2 : List Ent} (h : LogMoves w base g f es1 w1) (k : ∀ f1, LogAt w1 base g f1 es1 → LogMoves w1 base g f1 es2 w2) : LogMoves w base g f es2 w2 := by
  obtain ⟨f1, hl, hm, hf⟩ := h
  obtain ⟨f2, hl2, hm2, hf2⟩ := k f1 hl
  refine ⟨f2, hl2, ⟨hm2.os.trans hm.os, hm2.tape.trans hm.tape, hm2.output.trans hm.output, Nat.le_trans hm.size hm2.size, fun i hi h1 h2 => ?_⟩, ?_⟩
  · refine (hm2.block i (Nat.lt_of_lt_of_le hi hm.size) h1 (fun e => ?_)).trans (hm.block i hi h1 h2)
    rcases hf with rfl | rfl | ⟨q, rfl, hq⟩
    · exact h2 e
    · cases e
    · injection e with e
      omega
  · rcases hf2 with rfl | rfl | ⟨q, rfl, hq⟩
    · exact hf
    · exact .inr (.inl rfl)
    · exact .inr (.inr ⟨q, rfl, Nat.le_trans hm.size hq⟩)
theorem LogMoves.below {w w' : World} {base g B : Nat} {f : Option Nat} {es es' : List Ent} (h : LogMoves w base g f es' w') (h0 : LogAt w base g f es) (hb : B ≤ base) (hB : B ≤ w.heap.size) : Below B w w' := by
  obtain ⟨f', _, hm, _⟩ := h
  exact hm.below (Nat.le_trans hb h0.base_le) (fun k hk => Nat.le_trans hb (h0.foot_at k hk).1) hB
theorem LogMoves.drew {w w' : World} {base g : Nat} {f : Option Nat} {es : List Ent} (h : LogMoves w base g f es w') : LogMoves w base g f es w'.drew := by
  obtain ⟨f', h1, h2, h3⟩ := h
  exact ⟨f', h1, h2.drew, h3⟩
theorem LogMoves.behind {w0 w w' : World} {base g : Nat} {f : Option Nat} {es : List Ent} (hb : Below w0.heap.size w0 w) (h : LogMoves w base g f es w') : LogMoves w0 base g f es w' := by
  obtain ⟨f', h1, h2, h3⟩ := h
  exact ⟨f', h1, h2.behind hb, h3.imp id (fun h => h.imp id (fun ⟨k, hk, hs⟩ => ⟨k, hk, Nat.le_trans hb.size hs⟩))⟩
/-- an append onto a log's entries, stored back -/
theorem log_appended {w w3 : World} {base g n c m c3 : Nat} {A A3 : Option Addr} {es l : List Ent} (hb : Blk w g 131 #[.slice A n c]) (hg : base ≤ g) (hn : es.length = n) (hm : l.length = m) (hf : FreeN 2 w base 73 A n c (ecs es)) (ha : AppendedN 2 w base 73 A n c (ecs es) m (ecs l) A3 c3 w3) :
    w3.cell? ⟨g, 0, none⟩ = some (.slice A n c) ∧ w3.frozen? ⟨g, 0, none⟩ = false ∧ LogMoves w base g (foot A c) (es ++ l) (w3.setCell ⟨g, 0, none⟩ (.slice A3 (n + m) c3)) := by
  subst hn
  subst hm
  obtain ⟨h1, h2, h3⟩ := ha
  have hfr := fun q hq => foot_far (cs := [.slice A es.length c]) hb hf q hq
  have hb3 : Blk w3 g 131 #[.slice A es.length c] := hb.grown h2 (fun e => hfr g e.symm rfl)
  refine ⟨by rw [hb3.cell]; rfl, hb3.frozen 0, foot A3 c3, ⟨A3, c3, ?_, hg, ?_, rfl⟩, (Moved.refl g _ w).grown h2 (fun k hk => .inl hk) |>.set_ 0 _, ?_⟩
  · have := hb3.set_ 0 (.slice A3 (es.length + l.length) c3)
    rw [List.length_append]
    exact this
  · rw [List.length_append, ecs_append]
    exact h1.far (fun k hk => foot_far (cs := [.slice A es.length c]) hb3 h1 k hk) _
  · exact h3.imp id .inr

set_option maxRecDepth 100000 in
set_option maxHeartbeats 800000 in
/-- (*log.Log).Add -/
theorem lAdd_any (base g : Nat) (f : Option Nat) (es : List Ent) (x : Ent) (w : World) (h : LogAt w base g f es) (hn : es.length ≤ 1048576) (hB : base ≤ w.heap.size) :
    Calls Try.prog 88 #[.pointer (some ⟨g, 0, none⟩), .agg #[.int .i64 x.t, .string x.s]] w fun e w' => e = .returned (.int .i64 ((addF es x).2 : Int)) ∧ LogMoves w base g f (addF es x).1 w' := by
  have hkA := Blk.new w 73 #[.int .i64 x.t, .string x.s]
  have hb1 := (Below.refl w.heap.size w).alloc (Nat.le_refl _) (.cells #[.int .i64 x.t, .string x.s] 73)
  have h1 := h.on hb1
  have hB1 := Nat.le_trans hB hb1.size
  have HGN := Lib.hid (show w.heap.size ≠ g by have := h.lt; omega)
  clear h
  have e0 : (w.alloc (.cells #[.int .i64 x.t, .string x.s] 73)).cell? ⟨w.heap.size, 0, none⟩ = some (.int .i64 x.t) := by rw [hkA.cell]; rfl
  have e1 : (w.alloc (.cells #[.int .i64 x.t, .string x.s] 73)).cell? ⟨w.heap.size, 1, none⟩ = some (.string x.s) := by rw [hkA.cell]; rfl
  have HL := Lib.hid (lLast_any base g f es _ h1 (by omega))
  have HB1 := Lib.hid hb1
  have H1 := Lib.hid h1
  have HB := Lib.hid hB1
  unfold addF
  clear hkA hb1 hB hB1
  by_cases hlt : x.t < lastT es
  · rw [if_pos hlt]
    generalize lastT es = q at *
    clear h1
    go_enter Try.func88, Try.ntmps88
    go_wp2_with fail
    refine HL.out.mono ?_
    rintro e w1 ⟨rfl, rfl⟩
    go_wp2_with fail
    go_ret
    exact ⟨rfl, LogMoves.behind HB1.out ⟨_, H1.out, Moved.refl _ _ _, .inl rfl⟩⟩
  · rw [if_neg hlt]
    by_cases hfull : 1024 ≤ es.length
    · rw [if_pos hfull]
      have hfull' : (1024 : Int) ≤ (es.length : Int) := by omega
      obtain ⟨A, c, hb, _, _, _⟩ := h1
      have c0 : (w.alloc (.cells #[.int .i64 x.t, .string x.s] 73)).cell? ⟨g, 0, none⟩ = some (.slice A es.length c) := by rw [hb.cell]; rfl
      clear hb hfull
      generalize lastT es = q at *
      go_enter Try.func88, Try.ntmps88
      go_wp2_with fail
      refine HL.out.mono ?_
      rintro e w1 ⟨rfl, rfl⟩
      go_wp2_with fail
      go_ret
      exact ⟨rfl, LogMoves.behind HB1.out ⟨_, H1.out, Moved.refl _ _ _, .inl rfl⟩⟩
    · rw [if_neg hfull]
      have hfull' : ¬ (1024 : Int) ≤ (es.length : Int) := by omega
      obtain ⟨A, c, hb, hg, hf, hff⟩ := h1
      have c0 : (w.alloc (.cells #[.int .i64 x.t, .string x.s] 73)).cell? ⟨g, 0, none⟩ = some (.slice A es.length c) := by rw [hb.cell]; rfl
      obtain ⟨i0, hi0, hz0, hz1, hz2⟩ := info_parts ent_row
      generalize lastT es = q at *
      have HGG := Lib.hid hg
      have HBK := Lib.hid hb
      have HF := Lib.hid hf
      have HFF := Lib.hid hff
      have HES := Lib.hid (show es.length < 1024 by omega)
      clear hb hg hf hff hfull hn
      go_enter Try.func88, Try.ntmps88
      go_wp2_with fail
      generalize w.alloc (.cells #[.int .i64 x.t, .string x.s] 73) = w1 at *
      refine HL.out.mono ?_
      rintro e w2 ⟨rfl, rfl⟩
      go_wp2_with fail
      have hx2 : Sees (w2.alloc (.cells #[.int .i64 x.t, .string x.s] 73)) (w2.alloc (.cells #[.int .i64 x.t, .string x.s] 73)).heap.size (some ⟨w2.heap.size, 0, none⟩) (1 * 2) (ecs [x]) := sees_new w2 #[.int .i64 x.t, .string x.s] 73
      have HX2 := Lib.hid hx2
      have HBA := Lib.hid ((Below.refl w2.heap.size w2).alloc (Nat.le_refl _) (.cells #[.int .i64 x.t, .string x.s] 73))
      have hcA : ∀ o, (w2.alloc o).cell? ⟨g, 0, none⟩ = some (.slice A es.length c) := fun o => by
        rw [World.cell?_alloc_lt w2 o ⟨g, 0, none⟩ HBK.out.lt]
        exact c0
      have hm1 : es.length + 1 ≤ maxLen := by have := HES.out; unfold maxLen; omega
      have hm2 : (es.length + 1) * 24 ≤ 140737488355328 := by have := HES.out; omega
      have HF2 := Lib.hid (HF.out.on HBA.out)
      have HBK2 := Lib.hid (HBK.out.below HBA.out HBK.out.lt)
      clear hx2
      go_region_law (refine step_append_freeN (sz := 2) rfl (.tmp 28) (.tmp 30) 23 rfl base 73 i0 _ 24 sl_ent hi0 hz0 hz1 hz2 rfl (by decide) A es.length c (ecs es) (by simp [Act.eval]) (by exact HF2.out) _ (some ⟨w2.heap.size, 0, none⟩) 1 1 (ecs [x]) (by simp [Act.eval]) (by exact HX2.out) (ecs_one _) hm1 hm2 (by have := HB.out; simp; omega) ?_
                     intro A3 c3 w3 ha3
                     obtain ⟨d0, f0, hlm⟩ := log_appended (n := es.length) (m := 1) (l := [x]) HBK2.out HGG.out rfl rfl HF2.out (ha3.same rfl rfl rfl rfl)
                     have HLM := Lib.hid hlm
                     clear hlm)
      all_goals
        go_wp2_with fail
        go_ret
        have hff := HFF.out
        subst hff
        exact ⟨rfl, LogMoves.behind HB1.out (LogMoves.behind HBA.out HLM.out)⟩
end Go.Proofs.Ytlggkeoihpcdiaa

/- The walks of package log: Put, and what it asks. -/
namespace Go.Proofs.Ytlggkeoihpcdiaa
open Go.RowKit

set_option maxRecDepth 100000 in
set_option maxHeartbeats 800000 in
/-- (*log.Log).fits -/
theorem lFits_any (base g : Nat) (f : Option Nat) (es : List Ent) (i t : Int) (A : Option Addr) (n c : Nat) (l : List Ent) (w : World) (h : LogAt w base g f es) (hn : es.length ≤ 1048576) (hs : Ents w w.heap.size A l) (hl : l.length = n) (hln : n ≤ 1048576) :
    Calls Try.prog 122 #[.pointer (some ⟨g, 0, none⟩), .int .i64 i, .int .i64 t, .slice A n c] w fun e w' => e = .returned (.int .i64 (fitsF es i t l : Int)) ∧ Below w.heap.size w w' := by
  have HT := Lib.hid (lTerm_any base g f es i w h (by omega))
  clear h
  unfold fitsF
  by_cases h1 : (termF es i).2 = false
  · rw [if_pos h1]
    have HT' := HT.out
    rw [h1] at HT'
    have HT := Lib.hid HT'
    clear HT' h1 hs
    generalize (termF es i).1 = q at *
    go_enter Try.func122, Try.ntmps122
    go_wp2_with fail
    refine HT.out.mono ?_
    rintro e w1 ⟨rfl, rfl⟩
    go_wp2_with fail
    go_ret
    exact ⟨rfl, Below.refl _ _⟩
  · rw [if_neg h1]
    have HT' := HT.out
    rw [Bool.not_eq_false] at h1
    rw [h1] at HT'
    have HT := Lib.hid HT'
    clear HT' h1
    generalize (termF es i).1 = q at *
    by_cases h2 : q = t
    · subst h2
      rw [if_neg (by simp)]
      generalize hR : (if fallF q l = true then 5 else 0) = R
      have HR := Lib.hid hR
      clear hR
      go_enter Try.func122, Try.ntmps122
      go_wp2_with fail
      refine HT.out.mono ?_
      rintro e w1 ⟨rfl, rfl⟩
      go_wp2_with fail
      go_loopw [2, 28] (fun v i wr => ∃ k : Nat, k ≤ n ∧ v = .int .i64 (upT q l k) ∧ i = .int .i64 (k : Int) ∧ (∀ (j : Nat) (hj : j < l.length), j < k → upT q l j ≤ l[j].t) ∧ Below w1.heap.size w1 wr) (fun _ i _ => n - (intOf i).toNat)
      case atStart => exact ⟨0, Nat.zero_le _, by rw [upT_zero], rfl, (fun j _ h => absurd h (by omega)), Below.refl _ _⟩
      case round =>
        obtain ⟨k, hk, rfl, rfl, hup, hbel⟩ := hrel
        by_cases hlt : k < n
        · have hkl : k < l.length := by omega
          obtain ⟨b, off, rfl, hbl, d0, d1⟩ := hs.at_ hkl
          have d0' := (hbel.cell (p := ⟨b, off + k * 2, none⟩) hbl).trans d0
          have d1' := (hbel.cell (p := ⟨b, off + k * 2 + 1, none⟩) hbl).trans d1
          have hlt' : (k : Int) < (n : Int) := by omega
          have hnx := upT_succ q l k hkl
          have HUP := Lib.hid hup
          by_cases hf : l[k].t < upT q l k
          · have HF := Lib.hid (fallF_at q l k hkl hf)
            clear d0 d1 hup hnx
            generalize l[k] = x at *
            generalize upT q l k = u at *
            go_wp2_with fail
            go_ret
            have hR := HR.out
            rw [if_pos HF.out] at hR
            subst hR
            exact ⟨rfl, (hbel.alloc hbel.size _)⟩
          · have HNF := Lib.hid (show upT q l k ≤ l[k].t by omega)
            clear d0 d1 hup
            generalize hx : l[k] = x at *
            generalize hu : upT q l k = u at *
            have HX := Lib.hid hx
            have HU := Lib.hid hu
            clear hx hu
            go_wp2_with fail
            go_roundw
            case rel =>
              refine ⟨k + 1, by omega, by rw [hnx], by go_num, fun j hj hjk => ?_, hbel.alloc hbel.size _⟩
              by_cases e : j = k
              · subst e
                have h1 := HX.out
                have h2 := HU.out
                rw [h1, h2]
                exact HNF.out
              · exact HUP.out j hj (by omega)
            case measure => simp [intOf]; omega
        · have hlt' : ¬ (k : Int) < (n : Int) := by omega
          have hff : fallF q l = false := fallF_none q l (fun j hj => hup j hj (by omega))
          have HFF := Lib.hid hff
          clear hup hff
          generalize upT q l k = u at *
          go_wp2_with fail
          go_ret
          have hR := HR.out
          rw [if_neg (by rw [HFF.out]; simp)] at hR
          subst hR
          exact ⟨rfl, hbel⟩
    · have h2' : (q != t) = true := by simpa using h2
      rw [if_pos h2]
      clear hs
      go_enter Try.func122, Try.ntmps122
      go_wp2_with fail
      refine HT.out.mono ?_
      rintro e w1 ⟨rfl, rfl⟩
      go_wp2_with fail
      go_ret
      exact ⟨rfl, Below.refl _ _⟩
set_option maxRecDepth 100000 in
theorem lFits_nil (i t : Int) (v : Value) (w : World) :
    Calls Try.prog 122 #[.pointer none, .int .i64 i, .int .i64 t, v] w fun e w' => e = .returned (.int .i64 1) ∧ w' = w := by
  go_enter Try.func122, Try.ntmps122
  go_wp2_with fail
  go_ret
  exact ⟨rfl, rfl⟩

set_option maxRecDepth 100000 in
set_option maxHeartbeats 800000 in
/-- (*log.Log).there -/
theorem lThere_any (base g : Nat) (f : Option Nat) (es : List Ent) (i : Int) (A : Option Addr) (n c : Nat) (l : List Ent) (w : World) (h : LogAt w base g f es) (hn : es.length ≤ 1048576) (hs : Ents w w.heap.size A l) (hl : l.length = n) (hln : n ≤ 1048576) (hi0 : 0 ≤ i) (hi : i ≤ 1048576) :
    Calls Try.prog 123 #[.pointer (some ⟨g, 0, none⟩), .int .i64 i, .slice A n c] w fun e w' => e = .returned (.int .i64 (thereF es i l : Int)) ∧ Below w.heap.size w w' := by
  have H := Lib.hid h
  clear h
  go_enter Try.func123, Try.ntmps123
  go_wp2_with fail
  go_loopw [13] (fun v wr => ∃ k : Nat, k ≤ n ∧ v = .int .i64 (k : Int) ∧ (∀ (j : Nat) (hj : j < l.length), j < k → termF es (i + 1 + j) = (l[j].t, true)) ∧ Below w.heap.size w wr) (fun v _ => n - (intOf v).toNat)
  case atStart => exact ⟨0, Nat.zero_le _, rfl, (fun j _ h => absurd h (by omega)), Below.refl _ _⟩
  case round =>
    obtain ⟨k, hk, rfl, hup, hbel⟩ := hrel
    by_cases hlt : k < n
    · have hkl : k < l.length := by omega
      obtain ⟨b, off, rfl, hbl, d0, d1⟩ := hs.at_ hkl
      have d0' := (hbel.cell (p := ⟨b, off + k * 2, none⟩) hbl).trans d0
      have d1' := (hbel.cell (p := ⟨b, off + k * 2 + 1, none⟩) hbl).trans d1
      have hlt' : (k : Int) < (n : Int) := by omega
      have HUP := Lib.hid hup
      have hw1 : IntKind.i64.wrap (i + 1) = i + 1 := by rw [IntKind.wrap_i64]; omega
      have hw2 : IntKind.i64.wrap (i + 1 + (k : Int)) = i + 1 + (k : Int) := by rw [IntKind.wrap_i64]; omega
      have hw3 : wrap64 (i + 1) = i + 1 := by unfold wrap64; omega
      have hw4 : wrap64 (i + 1 + (k : Int)) = i + 1 + (k : Int) := by unfold wrap64; omega
      have HX : ∃ x, l[k] = x := ⟨_, rfl⟩
      obtain ⟨x, hx⟩ := HX
      rw [hx] at d0' d1'
      have HXX := Lib.hid hx
      have hA0 := Blk.new wr 73 #[.int .i64 x.t, .string x.s]
      have e0 : (wr.alloc (.cells #[.int .i64 x.t, .string x.s] 73)).cell? ⟨wr.heap.size, 0, none⟩ = some (.int .i64 x.t) := by rw [hA0.cell]; rfl
      have hb2 := hbel.alloc hbel.size (.cells #[.int .i64 x.t, .string x.s] 73)
      clear d0 d1 hup hx hA0
      go_wp2_with fail
      refine (lTerm_any base g f es _ _ (H.out.on hb2) (by omega)).mono ?_
      rintro e w3 ⟨rfl, rfl⟩
      have hbz : ∀ T : Int, termF es (i + 1 + (k : Int)) ≠ (x.t, true) → thereF es i l = k := fun _ h => thereF_eq es i l k (by omega) HUP.out (fun hk => by rw [HXX.out]; exact h)
      have hmore : termF es (i + 1 + (k : Int)) = (x.t, true) → ∀ (j : Nat) (hj : j < l.length), j < k + 1 → termF es (i + 1 + j) = (l[j].t, true) := fun h j hj hjk => by
        by_cases e : j = k
        · subst e
          rw [HXX.out]
          exact h
        · exact HUP.out j hj (by omega)
      generalize hTB : termF es (i + 1 + (k : Int)) = TB at *
      obtain ⟨T, b1⟩ := TB
      have HZ := Lib.hid hbz
      have HM := Lib.hid hmore
      clear hbz hmore hTB d0' d1' HUP
      cases b1 with
      | false =>
        have hth := HZ.out 0 (by simp)
        have HTH := Lib.hid hth
        clear hth
        go_wp2_with fail
        go_ret
        rw [HTH.out]
        exact ⟨rfl, hb2⟩
      | true =>
        by_cases hTx : T = x.t
        · subst hTx
          go_wp2_with fail
          go_roundw
          case rel => exact ⟨k + 1, by omega, by go_num, HM.out (by simp), hb2⟩
          case measure => simp [intOf]; omega
        · have hth := HZ.out 0 (by simpa using hTx)
          have hne : (T != x.t) = true := by simpa using hTx
          have HTH := Lib.hid hth
          clear hth
          go_wp2_with fail
          go_ret
          rw [HTH.out]
          exact ⟨rfl, hb2⟩
    · have hlt' : ¬ (k : Int) < (n : Int) := by omega
      have hkn : k = n := by omega
      have hth := thereF_eq es i l k (by omega) hup (fun h => absurd h (by omega))
      have HTH := Lib.hid hth
      clear hup hth
      go_wp2_with fail
      go_ret
      rw [HTH.out, hkn]
      exact ⟨rfl, hbel⟩

theorem LogMoves.cut_then {w2 w3 w4 : World} {base g : Nat} {f f1 : Option Nat} {es : List Ent} (hmv : Moved g none w2 w3) (hf1 : f1 = f ∨ f1 = none) (h : LogMoves w3 base g f1 es w4) : LogMoves w2 base g f es w4 := by
  obtain ⟨f', h1, h2, h3⟩ := h
  refine ⟨f', h1, ⟨h2.os.trans hmv.os, h2.tape.trans hmv.tape, h2.output.trans hmv.output, Nat.le_trans hmv.size h2.size, fun k hk hg hf => (h2.block k (Nat.lt_of_lt_of_le hk hmv.size) hg (fun e => ?_)).trans (hmv.block k hk hg (by simp))⟩, ?_⟩
  · rcases hf1 with rfl | rfl
    · exact hf e
    · cases e
  · rcases h3 with rfl | rfl | ⟨q, rfl, hq⟩
    · exact hf1.imp id .inl
    · exact .inr (.inl rfl)
    · exact .inr (.inr ⟨q, rfl, Nat.le_trans hmv.size hq⟩)
theorem Moved.to_moves {w w' : World} {base g : Nat} {f : Option Nat} {es : List Ent} (h : LogAt w base g f es) (hb : Below w.heap.size w w') : LogMoves w base g f es w' :=
  ⟨f, h.on hb, (Moved.refl g f w).on hb, .inl rfl⟩

set_option maxRecDepth 100000 in
set_option maxHeartbeats 1600000 in
/-- (*log.Log).Put -/
theorem lPut_any (base g : Nat) (f : Option Nat) (es : List Ent) (i t : Int) (A : Option Addr) (n c : Nat) (l : List Ent) (w : World) (h : LogAt w base g f es) (hn : es.length ≤ 1048576) (hs : Ents w w.heap.size A l) (hl : l.length = n) (hc : n ≤ c) (hln : n ≤ 1048576) (hne : 0 < n → ∀ a, A = some a → a.block ≠ g) (hB : base ≤ w.heap.size) :
    Calls Try.prog 106 #[.pointer (some ⟨g, 0, none⟩), .int .i64 i, .int .i64 t, .slice A n c] w fun e w' => e = .returned (.tuple #[.int .i64 (putF es i t l).2.1, .int .i64 ((putF es i t l).2.2 : Int)]) ∧ LogMoves w base g f (putF es i t l).1 w' := by
  have HF := Lib.hid (lFits_any base g f es i t A n c l w h hn hs hl hln)
  have H := Lib.hid h
  have HS := Lib.hid hs
  unfold putF
  by_cases h1 : fitsF es i t l ≠ 0
  · rw [if_pos h1]
    have h1' : ((fitsF es i t l : Int) != 0) = true := by simp; omega
    have HL := Lib.hid hl
    clear h hs h1 hl hc hne
    generalize fitsF es i t l = q at *
    simp only
    go_enter Try.func106, Try.ntmps106
    go_wp2_with fail
    refine HF.out.mono ?_
    rintro e w1 ⟨rfl, hb1⟩
    go_wp2_with fail
    go_ret2
    exact ⟨rfl, Moved.to_moves H.out hb1⟩
  · have h0 : fitsF es i t l = 0 := by omega
    rw [if_neg h1]
    have hti : (termF es i).2 = true := by
      unfold fitsF at h0
      split at h0
      · cases h0
      · rename_i hh
        simpa using hh
    obtain ⟨hi0, hi1⟩ := termF_true hti
    obtain ⟨m, rfl⟩ : ∃ m : Nat, i = m := ⟨i.toNat, by omega⟩
    rw [h0] at HF
    have hF' := HF.out
    have HF := Lib.hid hF'
    have hHT := fun W hW => lThere_any base g f es m A n c l W (h.on hW) hn (Sees.on hs hW) hl hln (by omega) (by omega)
    have hthl := thereF_le es m l
    have hthb := thereF_bound es m l (by omega)
    clear hF' h1 h0 hti hi0
    generalize thereF es m l = th at *
    have HT := Lib.hid hHT
    clear hHT
    by_cases h2 : th = l.length
    · rw [if_pos h2]
      have h2' : ((th : Int) == (n : Int)) = true := by simp; omega
      have HTH := Lib.hid h2
      clear h hs hne hc hthl hthb h2 hl
      simp only
      go_enter Try.func106, Try.ntmps106
      go_wp2_with fail
      refine HF.out.mono ?_
      rintro e w1 ⟨rfl, hb1⟩
      go_wp2_with fail
      refine (HT.out w1 hb1).mono ?_
      rintro e w2 ⟨rfl, hb2⟩
      go_wp2_with fail
      go_ret2
      exact ⟨rfl, Moved.to_moves H.out (bthen hb1 hb2)⟩
    · rw [if_neg h2]
      have h2' : ((th : Int) == (n : Int)) = false := by simp; omega
      by_cases h3 : 1024 < (m : Int) + (l.length : Int)
      · rw [if_pos h3]
        have h3' : (1024 : Int) < (m : Int) + (n : Int) := by omega
        have hw1 : IntKind.i64.wrap ((m : Int) + (n : Int)) = (m : Int) + (n : Int) := wr_i64 (by omega) (by omega)
        have hw1' : wrap64 ((m : Int) + (n : Int)) = (m : Int) + (n : Int) := wr_64 (by omega) (by omega)
        have HL := Lib.hid hl
        clear h hs hne hc hthl hthb h2 hl h3
        simp only
        go_enter Try.func106, Try.ntmps106
        go_wp2_with fail
        refine HF.out.mono ?_
        rintro e w1 ⟨rfl, hb1⟩
        go_wp2_with fail
        refine (HT.out w1 hb1).mono ?_
        rintro e w2 ⟨rfl, hb2⟩
        go_wp2_with fail
        go_ret2
        exact ⟨rfl, Moved.to_moves H.out (bthen hb1 hb2)⟩
      · rw [if_neg h3]
        have h3' : ¬ (1024 : Int) < (m : Int) + (n : Int) := by omega
        have hthn : th < n := by omega
        have hkk : ((m : Int) + (th : Int)).toNat = m + th := by omega
        rw [hkk]
        have hcast : (m : Int) + (th : Int) = ((m + th : Nat) : Int) := by omega
        have hel : m + th ≤ es.length := by omega
        have hsl := fun W => ents_from A n c th (th : Int) rfl (by omega) W
        have hthm : th ≤ 1048576 := by omega
        have hmm : m ≤ 1048576 := by omega
        have htl : (es.take (m + th)).length = m + th := by rw [List.length_take]; omega
        have hdl : (l.drop th).length = n - th := by rw [List.length_drop, hl]
        have HSD := Lib.hid (fun (W : World) (hW : Ents W W.heap.size A l) => Ents.drop (c := c) (k := th) hW hl (by omega) hc)
        generalize (if c = th then A else A.map (·.add (th * 2))) = A4 at *
        have HTL := Lib.hid htl
        have HDL := Lib.hid hdl
        have HEL := Lib.hid hel
        have HNE := Lib.hid hne
        have HBB := Lib.hid hB
        have HM := Lib.hid (show m + th + (n - th) ≤ 1024 by omega)
        have HCA := Lib.hid hcast
        have HL := Lib.hid hl
        obtain ⟨i0, hq0, hz0, hz1, hz2⟩ := info_parts ent_row
        clear h hs hne hc hthl hthb h2 hl h3 htl hdl hel hkk hB hcast hi1
        have hw1 : IntKind.i64.wrap ((m : Int) + (n : Int)) = (m : Int) + (n : Int) := wr_i64 (by clear h3'; omega) (by clear h3'; omega)
        have hw1' : wrap64 ((m : Int) + (n : Int)) = (m : Int) + (n : Int) := wr_64 (by clear h3'; omega) (by clear h3'; omega)
        have hw2 : IntKind.i64.wrap ((m : Int) + (th : Int)) = (m : Int) + (th : Int) := wr_i64 (by omega) (by omega)
        have hw2' : wrap64 ((m : Int) + (th : Int)) = (m : Int) + (th : Int) := wr_64 (by omega) (by omega)
        have hw3 : IntKind.i64.wrap ((m : Int) + (th : Int) + 1) = (m : Int) + (th : Int) + 1 := wr_i64 (by omega) (by omega)
        have hw3' : wrap64 ((m : Int) + (th : Int) + 1) = (m : Int) + (th : Int) + 1 := wr_64 (by omega) (by omega)
        clear hthm hmm
        simp only
        go_enter Try.func106, Try.ntmps106
        go_wp2_with fail
        refine HF.out.mono ?_
        rintro e w1 ⟨rfl, hb1⟩
        go_wp2_with fail
        refine (HT.out w1 hb1).mono ?_
        rintro e w2 ⟨rfl, hb2⟩
        have hb3 := bthen hb1 hb2
        clear hb1 hb2 HF HT
        go_wp2_with fail
        rw [HCA.out]
        refine (lCut_any base g f es (m + th) w2 (H.out.on hb3) HEL.out).mono ?_
        rintro e w3 ⟨rfl, f1, hla, hmv, hf1⟩
        have hs3 := Sees.moved (Sees.on HS.out hb3) hmv (fun hp => HNE.out (by have h9 := HL.out; clear hw1 hw1' hw2 hw2' hw3 hw3'; omega))
        have hs4 := HSD.out _ hs3
        obtain ⟨A1, c1, hbk, hg, hfr, hff⟩ := hla
        rw [HTL.out] at hbk hfr
        have c0 : w3.cell? ⟨g, 0, none⟩ = some (.slice A1 (m + th) c1) := by rw [hbk.cell]; rfl
        have HBK := Lib.hid hbk
        have HFR := Lib.hid hfr
        have HFF := Lib.hid hff
        have HF1 := Lib.hid hf1
        have HS4 := Lib.hid hs4
        have HMV := Lib.hid hmv
        have HB3 := Lib.hid hb3
        have hm1 : m + th + (n - th) ≤ maxLen := Nat.le_trans HM.out (by decide)
        have hm2 : (m + th + (n - th)) * 24 ≤ 140737488355328 := Nat.le_trans (Nat.mul_le_mul_right 24 HM.out) (by decide)
        clear hs3 hs4 hbk hfr hff hf1 hmv hb3 HS HSD HNE
        go_wp2_with fail
        have hs5 : Sees w3 w3.heap.size A4 ((n - th) * 2) (ecs (l.drop th)) := by have h9 := HS4.out; unfold Ents at h9; rwa [HDL.out] at h9
        have HS5 := Lib.hid hs5
        have HBZ := Lib.hid (Nat.le_trans HBB.out (Nat.le_trans HB3.out.size HMV.out.size))
        clear hs5 hw1 hw1' hw2 hw2' HS4
        go_region_law (refine step_append_freeN (sz := 2) rfl (.tmp 42) (.tmp 45) 23 rfl base 73 i0 _ 24 sl_ent hq0 hz0 hz1 hz2 rfl (by decide) A1 (m + th) c1 (ecs (es.take (m + th))) (by simp [Act.eval]) (by exact HFR.out) _ A4 (n - th) (c - th) (ecs (l.drop th)) (by simp [Act.eval]) (by exact HS5.out) (ecs_one _) hm1 hm2 (by exact HBZ.out) ?_
                       intro A3 c3 w4 ha3
                       obtain ⟨d0, f0, hlm⟩ := log_appended HBK.out hg HTL.out HDL.out HFR.out (ha3.same rfl rfl rfl rfl)
                       have HLM := Lib.hid hlm
                       clear hlm)
        all_goals
          go_wp2_with fail
          go_ret2
          have hff := HFF.out
          subst hff
          exact ⟨rfl, LogMoves.behind HB3.out (LogMoves.cut_then HMV.out HF1.out HLM.out)⟩
set_option maxRecDepth 100000 in
theorem lPut_nil (i t : Int) (v : Value) (w : World) :
    Calls Try.prog 106 #[.pointer none, .int .i64 i, .int .i64 t, v] w fun e w' => e = .returned (.tuple #[.int .i64 0, .int .i64 1]) ∧ w' = w := by
  go_enter Try.func106, Try.ntmps106
  go_wp2_with fail
  refine (lFits_nil i t v w).mono ?_
  rintro e w1 ⟨rfl, rfl⟩
  go_wp2_with fail
  go_ret2
  exact ⟨rfl, rfl⟩
set_option maxRecDepth 100000 in
theorem lAdd_nil (x : Ent) (w : World) :
    Calls Try.prog 88 #[.pointer none, .agg #[.int .i64 x.t, .string x.s]] w fun e w' => e = .returned (.int .i64 1) ∧ Below w.heap.size w w' := by
  go_enter Try.func88, Try.ntmps88
  go_wp2_with fail
  go_ret
  exact ⟨rfl, (Below.refl _ _).alloc (Nat.le_refl _) _⟩
end Go.Proofs.Ytlggkeoihpcdiaa
