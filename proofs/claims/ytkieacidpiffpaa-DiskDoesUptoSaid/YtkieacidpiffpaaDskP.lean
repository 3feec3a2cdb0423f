/- One file, plain: what the calls of a law come to. -/
import Derived.Test.YtkieacidpiffpaaLawDO
namespace Go.Proofs.Ytkieacidpiffpaa
open Go Go.RowKit Go.Shelf
set_option linter.unusedVariables false
set_option linter.unusedSimpArgs false

abbrev sF : ByteArray := ⟨#[102]⟩
abbrev mN (R : Nat) : Md := ⟨R, false, -1, []⟩
abbrev mF (R : Nat) (bs : List Int) (n : Nat) : Md := ⟨R, false, -1, [⟨sF, bs, n⟩]⟩
theorem F_first {R : Nat} {bs : List Int} (h : bs.length ≤ R) : (mN R).append sF bs = (mF R bs 0, 0) := by
  show Md.app (mN R) sF bs = _
  unfold Md.app
  rw [if_neg (by show ¬ (false = true ∨ R < sizes [] + bs.length); rw [sizes_nil]; simp; omega)]
  rfl
theorem F_append {R n : Nat} {bs cs : List Int} (h : bs.length + cs.length ≤ R) : (mF R bs n).append sF cs = (mF R (bs ++ cs) n, 0) := by
  show Md.app (mF R bs n) sF cs = _
  unfold Md.app
  rw [if_neg (by show ¬ (false = true ∨ R < sizes [⟨sF, bs, n⟩] + cs.length); rw [sizes_cons, sizes_nil]; simp; omega)]
  rfl
theorem F_sync (R n : Nat) (bs : List Int) : (mF R bs n).sync sF = (mF R bs bs.length, 0) := rfl
theorem F_cut {R n k : Nat} {bs : List Int} (h : k ≤ bs.length) : (mF R bs n).cut sF (k : Int) = (mF R (bs.take k) (min n k), 0) := by
  show Md.chg (mF R bs n) sF (cutV (k : Int).toNat) (fun f => decide ((k : Int) < 0 ∨ (f.has.length : Int) < (k : Int))) 1 = _
  show (if decide ((k : Int) < 0 ∨ (bs.length : Int) < (k : Int)) = true then (mF R bs n, (1 : Int)) else (mF R (bs.take (k : Int).toNat) (min n (k : Int).toNat), 0)) = _
  rw [if_neg (by simp; omega), Int.toNat_natCast]
theorem F_cutno {R n : Nat} {z : Int} {bs : List Int} (h : (bs.length : Int) < z) : (mF R bs n).cut sF z = (mF R bs n, 1) := by
  show (if decide (z < 0 ∨ (bs.length : Int) < z) = true then (mF R bs n, (1 : Int)) else _) = _
  rw [if_pos (decide_eq_true (.inr h))]
theorem F_crash {R n : Nat} {z : Int} {bs : List Int} : (mF R bs n).crash z = mF R (bs.take (min (n + z.toNat) (max n bs.length))) (min (n + z.toNat) (max n bs.length)) := rfl
theorem F_read (R n : Nat) (bs : List Int) : readB (mF R bs n) sF = bs ∧ readC (mF R bs n) sF = 0 := ⟨rfl, rfl⟩
theorem F_used (R n : Nat) (bs : List Int) : sizes (mF R bs n).fs = bs.length := by show sizes [⟨sF, bs, n⟩] = _; rw [sizes_cons, sizes_nil]; rfl
theorem sF_small : sF.size ≤ 30 := by decide
theorem strs_add (a b : List Int) : strOfNums a ++ strOfNums b = strOfNums (a ++ b) := by
  unfold strOfNums
  apply ByteArray.ext
  rw [ByteArray.data_append]
  simp
theorem strs_size (a : List Int) : (strOfNums a).size = a.length := by
  unfold strOfNums; simp [ByteArray.size]
end Go.Proofs.Ytkieacidpiffpaa
