/- Pieces of lists of bytes: a[l:h], a[:h], a[l:]. -/
import Derived.Test.YtdagpmmachaeaaaOwn
namespace Go.Proofs.Ytdagpmmachaeaaa
open Go Go.RowKit
set_option linter.unusedVariables false
set_option linter.unusedSimpArgs false

theorem size_byte (W : World) : (sizeOf (Try.prog.elem 22)).run Try.prog W = .ok 1 W := by
  obtain ⟨i0, hi, hz0, hz1, hz2⟩ := info_parts infoByte
  rw [show Try.prog.elem 22 = 5 by kernel_rfl]
  simp [sizeOf, typeInfo, hi, hz1]
theorem under_bytes : Try.prog.underlying 22 = some (.slice (Try.prog.elem 22)) := by
  rw [show Try.prog.elem 22 = 5 by kernel_rfl]; exact Try.underlying22
def cutAt (A : Option Addr) (l c : Nat) : Option Addr := if c = l then A else A.map (·.add (l * 1))
theorem cutAt_bytes {hi : Nat} {W : World} {A : Option Addr} {bs : List Int} (hB : Bytes hi W A bs) {l h c : Nat} (hl : l ≤ h) (hh : h ≤ bs.length) (hc : bs.length ≤ c) : Bytes hi W (cutAt A l c) ((bs.take h).drop l) := by
  intro hne
  have hlt : l < h := by
    rcases Nat.lt_or_ge l h with h1 | h1
    · exact h1
    · exact absurd (List.drop_eq_nil_of_le (by simp; omega)) hne
  obtain ⟨b, o, rfl, hbh, hcell⟩ := hB (by intro e; simp [e] at hh; omega)
  have key : ∀ i x, ((bs.take h).drop l)[i]? = some x → W.cell? ⟨b, o + l + i, none⟩ = some (.int .u8 x) := fun i x hx => by
    rw [List.getElem?_drop, List.getElem?_take] at hx
    split at hx
    · have := hcell _ _ hx; rwa [← Nat.add_assoc] at this
    · cases hx
  unfold cutAt
  rw [if_neg (by omega)]
  by_cases e : l = 0
  · subst e; exact ⟨b, o, by simp [Addr.add], hbh, by simpa using key⟩
  · exact ⟨b, o + l, by simp [Addr.add, e], hbh, key⟩
theorem run_lh (A : Option Addr) (n c l h : Nat) (hl : l ≤ h) (hh : h ≤ c) (W : World) :
    (Instr.slice 22 (.slice A n c) (some (.int .i64 l)) (some (.int .i64 h)) none).run Try.prog W = .ok (.slice (cutAt A l c) (h - l) (c - l)) W := by
  rw [run_slice_lh W _ A n c under_bytes .i64 .i64 l h (by omega) (by omega) (by omega), size_byte]; rfl
theorem run_h (A : Option Addr) (n c h : Nat) (hh : h ≤ c) (W : World) :
    (Instr.slice 22 (.slice A n c) none (some (.int .i64 h)) none).run Try.prog W = .ok (.slice (cutAt A 0 c) h c) W := by
  rw [run_slice_h W _ A n c under_bytes .i64 h (by omega) (by omega), size_byte]; rfl
theorem run_l (A : Option Addr) (n c l : Nat) (hl : l ≤ n) (W : World) :
    (Instr.slice 22 (.slice A n c) (some (.int .i64 l)) none none).run Try.prog W = .ok (.slice (cutAt A l c) (n - l) (c - l)) W := by
  rw [run_slice_l W _ A n c under_bytes .i64 l (by omega) (by omega), size_byte]; rfl
end Go.Proofs.Ytdagpmmachaeaaa
