/- Plain facts on records written to a disk that has room; the fixed saves of layer 6's statements. -/
import Derived.Test.YtmhgbpgbnfdokaaHd9
namespace Go.Proofs.Ytmhgbpgbnfdokaa
open Go.RowKit

theorem bytesF_right (r : RecM) (h : RightM r) : bytesF r = (recB r, 0) := by
  obtain ⟨h1, h2⟩ := h
  unfold bytesF
  rw [if_neg h1, if_neg (by omega)]
theorem appF_right (all : List UInt8) (r : RecM) (h : RightM r) (hl : all.length + (recB r).length ≤ 1048576) : appF all r = (all ++ recB r, 0) := by
  unfold appF
  rw [bytesF_right r h, if_neg (by simp)]
  unfold writeF
  rw [if_neg (by simp only; omega)]
theorem writeL_right (ms : List RecM) (h : ∀ r ∈ ms, RightM r) (all : List UInt8) (hl : all.length + (recsB ms).length ≤ 1048576) : writeL all ms = (all ++ recsB ms, 0) := by
  induction ms generalizing all with
  | nil => rw [recsB_nil, List.append_nil]; rfl
  | cons r l ih =>
    rw [recsB_cons, List.length_append] at hl
    unfold writeL
    rw [appF_right all r (h r (by simp)) (by omega), if_neg (by simp), ih (fun x hx => h x (by simp [hx])) _ (by rw [List.length_append]; omega), recsB_cons, List.append_assoc]
theorem readB_right (ms : List RecM) (h : ∀ r ∈ ms, RightM r) : readB (recsB ms) = (ms, (recsB ms).length, 0) := by
  have h4 := readB_recs [] ms h
  rw [List.append_nil, readB_nil] at h4
  simpa using h4

abbrev fx1 : SvP := ⟨true, 3, 1, 1, [⟨2, ⟨#[120]⟩⟩, ⟨3, ⟨#[121]⟩⟩]⟩
abbrev fx2 : SvP := ⟨false, 0, 0, 2, [⟨3, ⟨#[122]⟩⟩]⟩
theorem fx_right : ∀ r ∈ recordsF fx1 ++ recordsF fx2, RightM r := by
  unfold RightM
  decide
theorem recsB_len (ms : List RecM) : (recsB ms).length = (ms.map (fun r => r.2.length + 9)).sum := by
  induction ms with
  | nil => rfl
  | cons r l ih => rw [recsB_cons, List.length_append, recB_length, ih]; rfl
theorem fx_len1 : (recsB (recordsF fx1)).length = 81 := by rw [recsB_len]; kernel_rfl
theorem fx_len : (recsB (recordsF fx1 ++ recordsF fx2)).length = 109 := by rw [recsB_len]; kernel_rfl
theorem fx_w1 : writeL [] (recordsF fx1) = (recsB (recordsF fx1), 0) := by
  rw [writeL_right _ (fun r hr => fx_right r (List.mem_append_left _ hr)) [] (by rw [fx_len1]; decide)]
  rfl
theorem fx_w2 : writeL (recsB (recordsF fx1)) (recordsF fx2) = (recsB (recordsF fx1 ++ recordsF fx2), 0) := by
  rw [writeL_right _ (fun r hr => fx_right r (List.mem_append_right _ hr)) _ (by rw [← List.length_append, ← recsB_append, fx_len]; decide), recsB_append]
theorem fx_rd : readB (recsB (recordsF fx1 ++ recordsF fx2)) = (recordsF fx1 ++ recordsF fx2, 109, 0) := by
  rw [readB_right _ fx_right, fx_len]
theorem fx_play : playF (recordsF fx1 ++ recordsF fx2) = some ⟨3, 1, [⟨2, ⟨#[120]⟩⟩, ⟨3, ⟨#[122]⟩⟩]⟩ := by kernel_rfl
theorem fx_nil : playF [] = some ⟨0, -1, []⟩ := by kernel_rfl
theorem fx_bad : playF [((3 : UInt8), [])] = none := by kernel_rfl
theorem fx_rights : rightS ⟨3, 1, [⟨2, ⟨#[120]⟩⟩, ⟨3, ⟨#[122]⟩⟩]⟩ = true := by kernel_rfl
end Go.Proofs.Ytmhgbpgbnfdokaa
