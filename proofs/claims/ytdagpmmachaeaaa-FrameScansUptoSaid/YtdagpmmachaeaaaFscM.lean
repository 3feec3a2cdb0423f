/- Frames one behind the other, whole and cut: plain mathematics. -/
import Derived.Test.YtdagpmmachaeaaaFrmS
import Derived.Test.YtdagpmmachaeaaaFrmK
namespace Go.Proofs.Ytdagpmmachaeaaa
open Go Go.RowKit
set_option linter.unusedSimpArgs false
set_option linter.unusedVariables false

def rowsB (l : List (List Int)) : List Int := (l.map frameB).flatten
theorem rowsB_app (a b : List (List Int)) : rowsB (a ++ b) = rowsB a ++ rowsB b := by simp [rowsB]
theorem rowsB_cons (x : List Int) (r : List (List Int)) : rowsB (x :: r) = frameB x ++ rowsB r := by simp [rowsB]
theorem rowsB_split (l : List (List Int)) (i : Nat) : rowsB l = rowsB (l.take i) ++ rowsB (l.drop i) := by rw [← rowsB_app, List.take_append_drop]
theorem rowsB_next {l : List (List Int)} {i : Nat} (h : i < l.length) : (rowsB (l.take (i + 1))).length = (rowsB (l.take i)).length + (8 + l[i].length) := by
  rw [List.take_succ_eq_append_getElem h, rowsB_app, List.length_append, rowsB_cons, List.length_append, frameB_len]; simp [rowsB]
theorem drop_rows {l : List (List Int)} {i : Nat} (h : i < l.length) : (rowsB l).drop (rowsB (l.take i)).length = frameB l[i] ++ rowsB (l.drop (i + 1)) := by
  rw [rowsB_split l i, List.drop_left, List.drop_eq_getElem_cons h, rowsB_cons]
/-- The frame with which a cut front goes on, where it is whole. -/
theorem take_frame {x r : List Int} {k : Nat} (h : 8 + x.length ≤ k) : ∃ r', (frameB x ++ r).take k = frameB x ++ r' := by
  refine ⟨r.take (k - (frameB x).length), ?_⟩
  rw [List.take_append, List.take_of_length_le (by rw [frameB_len]; exact h)]
theorem numN_take {bs : List Int} {k : Nat} (h : 4 ≤ k) : numN (bs.take k) = numN bs := by
  unfold numN
  have e : ∀ i, i < 4 → (bs.take k).getD i 0 = bs.getD i 0 := fun i hi => by
    rw [List.getD_eq_getElem?_getD, List.getD_eq_getElem?_getD, List.getElem?_take_of_lt (by omega)]
  rw [e 0 (by omega), e 1 (by omega), e 2 (by omega), e 3 (by omega)]
theorem okF_cut {x r : List Int} (hx : x.length ≤ 60000) {k : Nat} (h : k < 8 + x.length) : okF ((frameB x ++ r).take k) = false := by
  refine okF_no fun ⟨h1, _, h3, _⟩ => ?_
  have h4 : 8 ≤ k := by rw [List.length_take] at h1; omega
  rw [numN_take (by omega), numN_frame hx, List.length_take] at h3
  omega
def Frs (l : List (List Int)) : Prop := ∀ x ∈ l, x.length ≤ 60000
theorem at_rows {l : List (List Int)} (hl : Frs l) {k : Nat} : ∀ (i : Nat), i ≤ l.length → (rowsB (l.take i)).length ≤ k → At ((rowsB l).take k) (l.take i) (rowsB (l.take i)).length
  | 0, _, _ => by simpa [rowsB] using At.start ((rowsB l).take k)
  | i + 1, hi, hk => by
    have hn := rowsB_next (l := l) (i := i) (by omega)
    have h1 := at_rows hl (k := k) i (by omega) (by omega)
    have hx := hl _ (List.getElem_mem (l := l) (n := i) (by omega))
    have hd : ((rowsB l).take k).drop (rowsB (l.take i)).length = (frameB l[i] ++ rowsB (l.drop (i + 1))).take (k - (rowsB (l.take i)).length) := by
      rw [List.drop_take, drop_rows (by omega)]
    obtain ⟨r', hr⟩ := take_frame (x := l[i]) (r := rowsB (l.drop (i + 1))) (k := k - (rowsB (l.take i)).length) (by omega)
    rw [hr] at hd
    have h2 := h1.next (by rw [hd]; exact okF_frame hx r')
    rw [hd, heldF_frame hx, numN_frame hx] at h2
    rw [hn, List.take_succ_eq_append_getElem (by omega)]
    exact h2
theorem okF_nil : okF [] = false := okF_no (fun h => by simp at h)
/-- A front of frames is a front of what they hold. -/
theorem scan_cut {l : List (List Int)} (hl : Frs l) {k : Nat} (hk : k ≤ (rowsB l).length) :
    ∃ j, j ≤ l.length ∧ scanL ((rowsB l).take k).length ((rowsB l).take k) = l.take j ∧ scanE ((rowsB l).take k).length ((rowsB l).take k) = (rowsB (l.take j)).length ∧ (rowsB (l.take j)).length ≤ k := by
  have H : ∀ n i, l.length - i = n → i ≤ l.length → (rowsB (l.take i)).length ≤ k → ∃ j, j ≤ l.length ∧ (rowsB (l.take j)).length ≤ k ∧ okF (((rowsB l).take k).drop (rowsB (l.take j)).length) = false := by
    intro n
    induction n with
    | zero =>
      intro i hn hi hik
      refine ⟨i, hi, hik, ?_⟩
      rw [List.drop_eq_nil_of_le (by rw [List.take_of_length_le (i := i) (by omega), List.length_take]; omega)]; exact okF_nil
    | succ n ih =>
      intro i hn hi hik
      have hnx := rowsB_next (l := l) (i := i) (by omega)
      by_cases h : (rowsB (l.take (i + 1))).length ≤ k
      · exact ih (i + 1) (by omega) (by omega) h
      · refine ⟨i, hi, hik, ?_⟩
        rw [List.drop_take, drop_rows (by omega)]
        exact okF_cut (hl _ (List.getElem_mem _)) (by omega)
  obtain ⟨j, hj, hjk, hok⟩ := H _ 0 rfl (Nat.zero_le _) (by simp [rowsB])
  obtain ⟨h1, h2⟩ := (at_rows hl j hj hjk).stop hok
  exact ⟨j, hj, h1.symm, h2.symm, hjk⟩
theorem scan_rows {l : List (List Int)} (hl : Frs l) : scanL (rowsB l).length (rowsB l) = l ∧ scanE (rowsB l).length (rowsB l) = (rowsB l).length := by
  have h := at_rows hl (k := (rowsB l).length) l.length (Nat.le_refl _) (by rw [List.take_length]; exact Nat.le_refl _)
  rw [List.take_length, List.take_length] at h
  obtain ⟨h1, h2⟩ := h.stop (by rw [List.drop_length]; exact okF_nil)
  exact ⟨h1.symm, h2.symm⟩
end Go.Proofs.Ytdagpmmachaeaaa
