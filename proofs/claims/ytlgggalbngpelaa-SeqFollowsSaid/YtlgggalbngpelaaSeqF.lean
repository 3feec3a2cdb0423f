/- SeqFollows, the Go function: it comes out true. -/
import Derived.Test.YtlgggalbngpelaaLawQV
namespace Go.Proofs.Ytlgggalbngpelaa
open Go Go.RowKit
set_option linter.unusedVariables false
set_option linter.unusedSimpArgs false

theorem follows_at {m k kx ix jx t : Nat} {ax : Int} (hok : okC (numsG m).length (⟨kx, ix, jx, flat ax 5⟩ : Cm GV)) (hk : k < m) (ht : t < (doL (numsG m) ⟨kx, ix, jx, flat ax 5⟩).length) :
    ∃ g, (doL (numsG m) ⟨kx, ix, jx, flat ax 5⟩)[t]? = some g ∧ (g.num = 1000 + (k : Int) ↔ (atB k kx ix = true ∧ atV k kx ix jx = t)) := by
  have hlen := nums_len m
  rw [do_len hok] at ht
  rw [do_get hok]
  have hn : ∀ s, s < m → (numsG m)[s]? = some (numG (1000 + (s : Int))) := fun s h => nums_get m s h
  rcases hok with ⟨h, hi⟩ | ⟨h | h, hi⟩ | ⟨h, hi, hj⟩ <;> simp only at h hi <;> subst h <;> rw [hlen] at hi ht
  · simp only [if_true] at ht ⊢
    by_cases h1 : t < ix
    · rw [if_pos h1, hn t (by omega)]
      refine ⟨_, rfl, ?_⟩
      simp only [numG, GV.num, atB, atV, gapN, moreN]
      simp
      split <;> omega
    · by_cases h2 : t = ix
      · rw [if_neg h1, if_pos h2]
        refine ⟨_, rfl, ?_⟩
        simp only [flat, GV.num, atB, atV, gapN, moreN]
        simp
        split <;> omega
      · rw [if_neg h1, if_neg h2, hn (t - 1) (by omega)]
        refine ⟨_, rfl, ?_⟩
        simp only [numG, GV.num, atB, atV, gapN, moreN]
        simp
        split <;> omega
  · simp only [if_neg (show ¬ (5 : Nat) = 4 by decide), if_true] at ht ⊢
    by_cases h1 : t < ix
    · rw [if_pos h1, hn t (by omega)]
      refine ⟨_, rfl, ?_⟩
      by_cases e : ix = k
      · subst e; simp [numG, GV.num, atB, atV]; omega
      · simp [numG, GV.num, atB, atV, gapN, lessN, e]; split <;> omega
    · rw [if_neg h1, hn (t + 1) (by omega)]
      refine ⟨_, rfl, ?_⟩
      by_cases e : ix = k
      · subst e; simp [numG, GV.num, atB, atV]; omega
      · simp [numG, GV.num, atB, atV, gapN, lessN, e]; split <;> omega
  · simp only [if_neg (show ¬ (6 : Nat) = 4 by decide), if_neg (show ¬ (6 : Nat) = 5 by decide), if_true] at ht ⊢
    by_cases h1 : t = ix
    · rw [if_pos h1]
      refine ⟨_, rfl, ?_⟩
      by_cases e : ix = k
      · subst e; simp [flat, GV.num, atB, atV]; omega
      · simp [flat, GV.num, atB, atV, gapN, e]; omega
    · rw [if_neg h1, hn t (by omega)]
      refine ⟨_, rfl, ?_⟩
      by_cases e : ix = k
      · subst e; simp [numG, GV.num, atB, atV]; omega
      · simp [numG, GV.num, atB, atV, gapN, e]; omega
  · simp only at hj
    rw [hlen] at hj
    simp only [if_neg (show ¬ (7 : Nat) = 4 by decide), if_neg (show ¬ (7 : Nat) = 5 by decide), if_neg (show ¬ (7 : Nat) = 6 by decide)] at ht ⊢
    have hat : atB k 7 ix = true := by simp [atB]
    have hav : (ix = k ∧ atV k 7 ix jx = jx) ∨ (ix ≠ k ∧ ∃ K, ((ix < k ∧ K = k - 1) ∨ (k ≤ ix ∧ K = k)) ∧ ((jx ≤ K ∧ atV k 7 ix jx = K + 1) ∨ (K < jx ∧ atV k 7 ix jx = K))) := by
      by_cases e : ix = k
      · exact .inl ⟨e, by simp [atV, e]⟩
      · refine .inr ⟨e, if ix < k then k - 1 else k, by split <;> omega, ?_⟩
        have : atV k 7 ix jx = moreN (if ix < k then k - 1 else k) jx false := by simp [atV, e, gapN, lessN]
        rw [this]
        generalize (if ix < k then k - 1 else k) = K
        unfold moreN
        by_cases h5 : jx ≤ K
        · exact .inl ⟨h5, by rw [if_pos (by simp; omega)]⟩
        · exact .inr ⟨by omega, by rw [if_neg (by simp; omega)]⟩
    simp only [hat, true_and]
    generalize atV k 7 ix jx = av at *
    by_cases h1 : t = jx
    · rw [if_pos h1, hn ix hi]
      refine ⟨_, rfl, ?_⟩
      simp only [numG, GV.num]
      rcases hav with ⟨e, h⟩ | ⟨e, K, h2, h3⟩ <;> omega
    · rw [if_neg h1]
      by_cases h2 : t < jx
      · rw [if_pos h2]
        by_cases h3 : t < ix
        · rw [if_pos h3, hn t (by omega)]
          refine ⟨_, rfl, ?_⟩
          simp only [numG, GV.num]
          rcases hav with ⟨e, h⟩ | ⟨e, K, h4, h5⟩ <;> omega
        · rw [if_neg h3, hn (t + 1) (by omega)]
          refine ⟨_, rfl, ?_⟩
          simp only [numG, GV.num]
          rcases hav with ⟨e, h⟩ | ⟨e, K, h4, h5⟩ <;> omega
      · rw [if_neg h2]
        by_cases h3 : t - 1 < ix
        · rw [if_pos h3, hn (t - 1) (by omega)]
          refine ⟨_, rfl, ?_⟩
          simp only [numG, GV.num]
          rcases hav with ⟨e, h⟩ | ⟨e, K, h4, h5⟩ <;> omega
        · rw [if_neg h3, hn t (by omega)]
          refine ⟨_, rfl, ?_⟩
          simp only [numG, GV.num]
          rcases hav with ⟨e, h⟩ | ⟨e, K, h4, h5⟩ <;> omega
theorem at_lt {m k kx ix jx : Nat} {v : GV} (hok : okC (numsG m).length (⟨kx, ix, jx, v⟩ : Cm GV)) (hk : k < m) (h : atB k kx ix = true) : atV k kx ix jx < (doL (numsG m) ⟨kx, ix, jx, v⟩).length := by
  have hlen := nums_len m
  rw [do_len hok]
  rcases hok with ⟨h0, hi⟩ | ⟨h0 | h0, hi⟩ | ⟨h0, hi, hj⟩ <;> simp only at h0 hi <;> subst h0 <;> rw [hlen] at hi ⊢
  · simp only [atV, gapN, moreN]; simp; split <;> omega
  · have e : ix ≠ k := by simpa [atB] using h
    simp only [atV, gapN, lessN]; simp [e]; split <;> omega
  · have e : ix ≠ k := by simpa [atB] using h
    simp [atV, gapN, e]; omega
  · simp only at hj; rw [hlen] at hj
    by_cases e : ix = k
    · subst e; simp [atV]; omega
    · simp only [atV, gapN, moreN, lessN]; simp [e]; (repeat' split) <;> omega
end Go.Proofs.Ytlgggalbngpelaa
