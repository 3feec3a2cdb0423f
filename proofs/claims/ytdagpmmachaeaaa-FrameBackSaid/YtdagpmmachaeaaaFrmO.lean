/- Frames: bytes.Clone at a frame's bytes; what Open answers, plain. -/
import Derived.Test.YtdagpmmachaeaaaFrmN
import Derived.Lib.SliceRun
namespace Go.Proofs.Ytdagpmmachaeaaa
open Go Go.RowKit
set_option linter.unusedVariables false
set_option linter.unusedSimpArgs false

def NewB (base : Nat) (W : World) (B : Option Addr) (bs : List Int) : Prop := bs = [] ∨ ∃ g, B = some ⟨g, 0, none⟩ ∧ RowB base W g bs
theorem NewB.bytes {base : Nat} {W : World} {B : Option Addr} {bs : List Int} (h : NewB base W B bs) : Bytes W.heap.size W B bs := by
  rcases h with rfl | ⟨g, rfl, hr⟩
  · exact Bytes.nil _ _ _
  · exact hr.bytes.up hr.lt
theorem NewB.lower {base base' : Nat} {W : World} {B : Option Addr} {bs : List Int} (h : NewB base W B bs) (hb : base' ≤ base) : NewB base' W B bs :=
  h.imp id fun ⟨g, e, hr⟩ => ⟨g, e, Nat.le_trans hb hr.base, hr.whole⟩
theorem NewB.keep {base lo : Nat} {W W' : World} {B : Option Addr} {bs : List Int} (h : NewB base W B bs) (hb : Below lo W W') (hl : W.heap.size ≤ lo) : NewB base W' B bs :=
  h.imp id fun ⟨g, e, hr⟩ => ⟨g, e, hr.keep hb (Nat.lt_of_lt_of_le hr.lt hl)⟩
def CloneOut (bs : List Int) (w : World) (e : Ending) (w' : World) : Prop :=
  ∃ B d, e = .returned (.slice B bs.length d) ∧ bs.length ≤ d ∧ NewB w.heap.size w' B bs ∧ Below w.heap.size w w'
set_option maxHeartbeats 1000000 in
theorem clone_any {hi : Nat} (A : Option Addr) (ca n : Nat) (bs : List Int) (w : World) (hA : Bytes hi w A bs) (hh : hi ≤ w.heap.size) (hs : bs.length ≤ 1000000) (hn : n = bs.length) :
    Calls Try.prog 30 #[.slice A n ca] w (CloneOut bs w) := by
  subst hn
  obtain ⟨i0, hi, hz0, hz1, hz2⟩ := info_parts infoByte
  have HI := Lib.hid (And.intro hi (And.intro hz0 (And.intro hz1 hz2)))
  have HA := Lib.hid (hA.keep ((Below.refl w.heap.size w).alloc (Nat.le_refl _) (.cells #[] 5)) hh)
  have HN := Lib.hid hA.none
  clear hi hz0 hz1 hz2 hA
  have hnil := fun W => Go.Lib.run_eql_slice_nil (P := Try.prog) W 22 5 A bs.length ca 0 0 Try.underlying22
  cases A with
  | none =>
    have hemp := List.length_eq_zero_iff.1 (HN.out rfl)
    have HR : Hid (CloneOut bs w (.returned (.slice none 0 0)) w) := Lib.hid ⟨none, 0, by rw [hemp]; rfl, by rw [hemp]; simp, .inl hemp, Below.refl _ _⟩
    clear hemp HN
    go_enter Try.func30, Try.ntmps30
    go_wp2
    go_ret
    exact HR.out
  | some a =>
    have HO : Hid (OwnB w.heap.size (w.alloc (.cells #[] 5)) (.slice (some ⟨w.heap.size, 0, none⟩) 0 0) []) := Lib.hid (World.ownsRow_lit w #[] 0 (Nat.le_refl _) (by unfold maxLen; omega) rfl)
    have HB : Hid (Below w.heap.size w (w.alloc (.cells #[] 5))) := Lib.hid ((Below.refl _ _).alloc (Nat.le_refl _) _)
    clear HN
    go_enter Try.func30, Try.ntmps30
    go_wp2_with (at_builtin; refine wpList_append_from _ rfl (.tmp 5) (.tmp 6) 22 rfl w.heap.size 5 i0 _ 1 1 Try.underlying22 HI.out.1 HI.out.2.1 HI.out.2.2.1 HI.out.2.2.2 rfl (by decide) (.slice (some ⟨w.heap.size, 0, none⟩) 0 0) 0 [] rfl HO.out (some a) bs.length ca (cellsB bs) rfl (fun h => by cases h) (by simp [cellsB]) (cellsB_from HA.out) (cellsB_one bs) (by unfold maxLen; omega) (by omega) (by simp) ?_; intro v' w1 hown hgrow hat; rw [Nat.zero_add, List.nil_append] at hown; have hb := grown_below HB.out hgrow HO.out (by simp); have HR : Hid (CloneOut bs w (.returned v') w1) := (by obtain ⟨B, d, rfl, hd, hr⟩ := own_bytes hown rfl; exact Lib.hid ⟨B, d, rfl, hd, hr, hb⟩); clear hown hgrow hat hb)
    go_ret
    exact HR.out
/-- What bytes begin with: a frame, of so many bytes. -/
def okF (bs : List Int) : Bool := decide (8 ≤ bs.length ∧ numN bs ≤ 60000 ∧ numN bs + 8 ≤ bs.length ∧ sumN [bs.take 4, (bs.take (8 + numN bs)).drop 8] = numN (bs.drop 4))
def heldF (bs : List Int) : List Int := (bs.take (8 + numN bs)).drop 8
theorem okF_yes {bs : List Int} (h1 : 8 ≤ bs.length) (h2 : numN bs ≤ 60000) (h3 : numN bs + 8 ≤ bs.length) (h4 : sumN [bs.take 4, (bs.take (8 + numN bs)).drop 8] = numN (bs.drop 4)) : okF bs = true := decide_eq_true ⟨h1, h2, h3, h4⟩
theorem okF_no {bs : List Int} (h : ¬ (8 ≤ bs.length ∧ numN bs ≤ 60000 ∧ numN bs + 8 ≤ bs.length ∧ sumN [bs.take 4, (bs.take (8 + numN bs)).drop 8] = numN (bs.drop 4))) : okF bs = false := decide_eq_false h
theorem okF_is {bs : List Int} (h : okF bs = true) : 8 ≤ bs.length ∧ numN bs ≤ 60000 ∧ numN bs + 8 ≤ bs.length ∧ sumN [bs.take 4, (bs.take (8 + numN bs)).drop 8] = numN (bs.drop 4) := of_decide_eq_true h
theorem heldF_len {bs : List Int} (h : okF bs = true) : (heldF bs).length = numN bs := by have := okF_is h; simp [heldF]; omega
def OpenOut (bs : List Int) (r : Int → Value) (w : World) (e : Ending) (w' : World) : Prop :=
  Below w.heap.size w w' ∧ ((okF bs = true ∧ ∃ B d, e = .returned (.tuple #[.slice B (numN bs) d, .int .i64 (8 + numN bs : Nat), r 0]) ∧ numN bs ≤ d ∧ NewB w.heap.size w' B (heldF bs)) ∨
    (okF bs = false ∧ e = .returned (.tuple #[.slice none 0 0, .int .i64 0, r 120])))
end Go.Proofs.Ytdagpmmachaeaaa
