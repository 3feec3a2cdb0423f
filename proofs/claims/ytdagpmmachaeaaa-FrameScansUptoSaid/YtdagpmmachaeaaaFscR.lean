/- Frames one behind the other, as the statement lays them. -/
import Derived.Test.YtdagpmmachaeaaaFscM
import Derived.Test.YtdagpmmachaeaaaFrmU
namespace Go.Proofs.Ytdagpmmachaeaaa
open Go Go.RowKit
set_option linter.unusedVariables false
set_option linter.unusedSimpArgs false

def RowsOut (ls : List (List Int)) (w : World) (e : Ending) (w' : World) : Prop := ∃ v, e = .returned v ∧ OwnB w.heap.size w' v (rowsB ls) ∧ Below w.heap.size w w'
def RowsRel (w : World) (ls : List (List Int)) (v i : Value) (W : World) : Prop := ∃ k : Nat, k ≤ ls.length ∧ i = .int .i64 k ∧ OwnB w.heap.size W v (rowsB (ls.take k)) ∧ Below w.heap.size w W
theorem OwnB.nil (base : Nat) (W : World) : OwnB base W (.slice none 0 0) [] := World.ownsRow_nil _ _ _ _
theorem rowsB_len_take (ls : List (List Int)) (k : Nat) : (rowsB (ls.take k)).length ≤ (rowsB ls).length := by rw [rowsB_split ls k, List.length_append]; omega
set_option maxHeartbeats 8000000 in
theorem rows_any {hi : Nat} (A : Option Addr) (ca n : Nat) (ls : List (List Int)) (w : World) (hR : Lists hi w A ls) (hh : hi ≤ w.heap.size) (hs : ∀ x ∈ ls, Short x) (hl : Frs ls) (ht : (rowsB ls).length ≤ 100000) (hn : n = ls.length) (hn2 : n ≤ 100000) :
    Calls Try.prog 25 #[.slice A n ca] w (RowsOut ls w) := by
  obtain ⟨i0, hi1, hz0, hz1, hz2⟩ := info_parts infoByte
  have HI := Lib.hid (And.intro hi1 (And.intro hz0 (And.intro hz1 hz2)))
  clear hi1 hz0 hz1 hz2
  have HR := Lib.hid hR
  have HS := Lib.hid hs
  have HL := Lib.hid hl
  have HT := Lib.hid ht
  have HN := Lib.hid hn
  have HH := Lib.hid hh
  clear hR hs hl ht hn hh
  go_enter Try.func25, Try.ntmps25
  go_wp2
  go_loopw [3, 4] (RowsRel w ls) (fun _ i _ => n - (intOf i).toNat)
  case atStart => exact ⟨0, Nat.zero_le _, rfl, OwnB.nil _ _, Below.refl _ _⟩
  case round =>
    obtain ⟨k, hk, rfl, ho, hb⟩ := hrel
    obtain ⟨W, rfl⟩ : ∃ W : World, W = wr := ⟨_, rfl⟩
    have hW := hb.size
    have HB := Lib.hid hb
    have HO := Lib.hid ho
    clear hb ho
    by_cases hlt : k < n
    · have hks : k < ls.length := by have := HN.out; omega
      have hne : ls ≠ [] := by intro e; simp [e] at hks
      obtain ⟨b1, o1, rfl, _, hc1⟩ := (HR.out.keep HB.out HH.out) hne
      obtain ⟨C1, d1, e1, hb1⟩ := hc1 k ls[k] (List.getElem?_eq_getElem hks)
      have HC := Lib.hid (hb1.up (ho := W.heap.size) (Nat.le_trans HH.out hW))
      have HSK := Lib.hid (HS.out _ (List.getElem_mem hks))
      have hlk := HL.out _ (List.getElem_mem hks)
      have HNX : Hid (rowsB (ls.take (k + 1)) = rowsB (ls.take k) ++ frameB ls[k]) := Lib.hid (by rw [List.take_succ_eq_append_getElem hks, rowsB_app]; simp [rowsB])
      have HLE := Lib.hid (Nat.le_trans (rowsB_len_take ls (k + 1)) HT.out)
      generalize ls[k] = x at e1 HC HSK hlk HNX
      have HX : Hid (x.length = x.length) := Lib.hid rfl
      generalize hm : x.length = m at e1
      have HM := Lib.hid hm.symm
      clear hm hc1 hb1 hne
      go_wp2_with (first
        | (go_at_call 18; ((with_reducible refine (rwrap_n C1 d1 m x W HC.out HSK.out hlk HM.out).mono ?_); rintro e5 w5 ⟨g, d, rfl, _, hr, hb5⟩; have HB5 := Lib.hid (HB.out.trans (hb5.mono hW)); have HR5 := Lib.hid hr; have HO5 := Lib.hid (HO.out.keep hb5 (fun k hk => (HO.out.lt k hk).2)); have hz5 := hb5.size; have HF := Lib.hid (frameB_len x); generalize hq : (frameB x).length = q; have HQ := Lib.hid hq; clear hq; clear hr hb5))
        | (at_builtin; go_loud (refine wpList_append_from _ rfl (.tmp 21) (.tmp 22) 22 rfl w.heap.size 5 i0 _ 1 1 Try.underlying22 HI.out.1 HI.out.2.1 HI.out.2.2.1 HI.out.2.2.2 rfl (by decide) _ (rowsB (ls.take k)).length (cellsB (rowsB (ls.take k))) rfl HO5.out (some ⟨g, 0, none⟩) q d (cellsB (frameB x)) rfl (fun h => by cases h) (by rw [cellsB_length, HQ.out, Nat.mul_one]) (cellsB_from HR5.out.bytes) (cellsB_one _) (by have := HLE.out; have := HNX.out ▸ HLE.out; have := HQ.out; unfold maxLen; simp at *; omega) (by have := HNX.out ▸ HLE.out; have := HQ.out; simp at *; omega) (by omega) ?_; intro v' w6 hown hgrow hat; have HH6 : Hid (OwnB w.heap.size w6 v' (rowsB (ls.take (k + 1)))) := Lib.hid (by rw [HNX.out]; unfold OwnB; rw [List.length_append, HQ.out, cellsB_app]; exact hown); have HB6 := Lib.hid (grown_below HB5.out hgrow HO5.out (by omega)); clear hown hgrow hat)))
      go_roundw
      case rel => exact ⟨k + 1, by omega, by go_num, HH6.out, HB6.out⟩
      case measure => simp [intOf]; omega
    · obtain rfl : k = n := by have := HN.out; omega
      have HE : Hid (rowsB (ls.take k) = rowsB ls) := Lib.hid (by rw [List.take_of_length_le (by have := HN.out; omega)])
      go_wp2
      go_ret
      exact ⟨_, rfl, by rw [← HE.out]; exact HO.out, HB.out⟩
end Go.Proofs.Ytdagpmmachaeaaa
