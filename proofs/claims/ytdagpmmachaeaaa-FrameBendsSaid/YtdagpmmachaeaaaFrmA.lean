/- Frames, the program's: a number's four bytes laid behind bytes; Wrap. -/
import Derived.Test.YtdagpmmachaeaaaFrmM
import Derived.Test.YtdagpmmachaeaaaSlc
import Derived.Test.YtdagpmmachaeaaaLawSE
import Derived.Laws.OwnMore
namespace Go.Proofs.Ytdagpmmachaeaaa
open Go Go.RowKit
set_option linter.unusedVariables false
set_option linter.unusedSimpArgs false

theorem cellsB_app (a b : List Int) : cellsB (a ++ b) = cellsB a ++ cellsB b := by simp [cellsB]
/-- A row of bytes of one's own, told by its bytes. -/
def OwnB (base : Nat) (W : World) (v : Value) (bs : List Int) : Prop := W.ownsRow base 5 1 v bs.length (cellsB bs)
theorem grown_trans {a b c : World} {row : Option Nat} (h : Below a.heap.size a b) (h2 : b.grownBy c row) : a.grownBy c row :=
  ⟨h2.os.trans h.os, h2.tape.trans h.tape, h2.output.trans h.output, Nat.le_trans h.size h2.size, fun k hk hr => (h2.block k (Nat.lt_of_lt_of_le hk h.size) hr).trans (h.block k hk)⟩
def LayOut (base n : Nat) (bs : List Int) (v : Value) (w : World) (e : Ending) (w' : World) : Prop :=
  ∃ v', e = .returned v' ∧ OwnB base w' v' (bs ++ num4 n) ∧ w.grownBy w' v.ownBlock
theorem OwnB.keep {base lo : Nat} {W W' : World} {v : Value} {bs : List Int} (h : OwnB base W v bs) (hb : Below lo W W') (hl : ∀ k, v.ownBlock = some k → k < lo) : OwnB base W' v bs := by
  refine ⟨h.1, h.2.imp id ?_⟩
  rintro ⟨g, cap, cur, rfl, hg, hw, r⟩
  exact ⟨g, cap, cur, rfl, hg, Eq.trans (hb.block g (hl g rfl)) hw, r⟩
theorem OwnB.lt {base : Nat} {W : World} {v : Value} {bs : List Int} (h : OwnB base W v bs) : ∀ k, v.ownBlock = some k → base ≤ k ∧ k < W.heap.size := World.ownsRow.lt h
theorem OwnB.alloc {base : Nat} {W : World} {v : Value} {bs : List Int} (h : OwnB base W v bs) (o : Obj) : OwnB base (W.alloc o) v bs :=
  h.keep (lo := W.heap.size) ((Below.refl _ _).alloc (Nat.le_refl _) o) fun k hk => (h.lt k hk).2
set_option maxHeartbeats 1000000 in
theorem lay_any (base n : Nat) (bs : List Int) (v : Value) (w : World) (hn : n < 4294967296) (hown : OwnB base w v bs) (hb : base ≤ w.heap.size) (hl : bs.length ≤ 1000000) :
    Calls Try.prog 27 #[v, .int .u32 n] w (LayOut base n bs v w) := by
  obtain ⟨i0, hi, hz0, hz1, hz2⟩ := info_parts infoByte
  have HI := Lib.hid (And.intro hi (And.intro hz0 (And.intro hz1 hz2)))
  have HO := Lib.hid (hown.alloc (.cells #[.int .u8 ((n : Int) / 16777216), .int .u8 ((n : Int) / 65536 % 256), .int .u8 ((n : Int) / 256 % 256), .int .u8 ((n : Int) % 256)] 5))
  have HW := Lib.hid (Whole.new w 5 #[.int .u8 ((n : Int) / 16777216), .int .u8 ((n : Int) / 65536 % 256), .int .u8 ((n : Int) / 256 % 256), .int .u8 ((n : Int) % 256)])
  clear hi hz0 hz1 hz2 hown
  go_enter Try.func27, Try.ntmps27
  go_wp2_with (at_builtin; refine wpList_append_from _ rfl (.tmp 5) (.tmp 17) 22 rfl base 5 i0 _ 1 1 Try.underlying22 HI.out.1 HI.out.2.1 HI.out.2.2.1 HI.out.2.2.2 rfl (by decide) v bs.length (cellsB bs) rfl HO.out (some ⟨w.heap.size, 0, none⟩) 4 4 (cellsB (num4 n)) rfl (fun h => by cases h) rfl (cellsB_from (Bytes.whole HW.out (fun i x hx => by
      match i, hx with
      | 0, h | 1, h | 2, h | 3, h => cases h; rfl
      | i + 4, h => simp [num4] at h))) (cellsB_one _) (by unfold maxLen; omega) (by omega) (by simp; omega) ?_; intro v' w1 hown hgrow hat; have HR : Hid (LayOut base n bs v w (.returned v') w1) := Lib.hid ⟨v', rfl, by unfold OwnB; rw [cellsB_app, List.length_append]; exact hown, grown_trans ((Below.refl _ _).alloc (Nat.le_refl _) _) hgrow⟩; clear hown hgrow hat)
  go_ret
  exact HR.out
end Go.Proofs.Ytdagpmmachaeaaa
