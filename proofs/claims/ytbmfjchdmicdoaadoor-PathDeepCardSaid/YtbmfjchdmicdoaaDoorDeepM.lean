/- What is put further in is put into what stands on the way: plain mathematics. -/
import Derived.Test.YtbmfjchdmicdoaaDoorPTools
import Derived.Test.YtbmfjchdmicdoaaDoorLawPS
namespace Go.Proofs.YtbmfjchdmicdoaaDoor
open Go Go.RowKit

theorem get_append {mid : GV} (q : List GStep) : ∀ (p : List GStep) (g : GV), g.get p = some mid → g.get (p ++ q) = mid.get q
  | [], g, e => by simp [GV.get] at e; subst e; rfl
  | s :: r, g, e => by
    simp only [GV.get] at e
    cases hi : g.inside s with
    | none => rw [hi] at e; cases e
    | some h =>
      rw [hi] at e
      simp only [Option.bind_some] at e
      rw [List.cons_append, get_of hi]
      exact get_append q r h e
theorem put_append {x mid inn : GV} (q : List GStep) (hq : mid.put x q = some inn) : ∀ (p : List GStep) (g : GV), g.get p = some mid → g.put x (p ++ q) = g.put inn p
  | [], g, e => by simp [GV.get] at e; subst e; simp [GV.put, hq]
  | s :: r, g, e => by
    simp only [GV.get] at e
    cases hi : g.inside s with
    | none => rw [hi] at e; cases e
    | some h =>
      rw [hi] at e
      simp only [Option.bind_some] at e
      simp only [List.cons_append, GV.put, hi, Option.bind_some]
      rw [put_append q hq r h e]
/-- A path that leads somewhere, cut in two. -/
theorem deep_split {x g h : GV} (ps : List GStep) (n : Nat) (e : g.get ps = some h) : ∃ mid inn y, g.get (ps.take n) = some mid ∧ mid.get (ps.drop n) = some h ∧ mid.put x (ps.drop n) = some inn ∧ g.put inn (ps.take n) = some y ∧ g.put x ps = some y := by
  have hap : ps.take n ++ ps.drop n = ps := List.take_append_drop n ps
  cases hm : g.get (ps.take n) with
  | none =>
    have hno : ∀ (q p : List GStep) (g : GV), g.get p = none → g.get (p ++ q) = none := by
      intro q p
      induction p with
      | nil => intro g e; simp [GV.get] at e
      | cons s r ih =>
        intro g e
        simp only [List.cons_append, GV.get] at e ⊢
        cases hi : g.inside s with
        | none => rfl
        | some y => rw [hi] at e; exact ih y e
    have := hno (ps.drop n) _ _ hm
    rw [hap, e] at this
    cases this
  | some mid =>
    have h1 := get_append (ps.drop n) _ _ hm
    rw [hap, e] at h1
    obtain ⟨inn, hinn⟩ := put_some_of (x := x) h1.symm
    obtain ⟨y, hy⟩ := put_some_of (x := inn) hm
    refine ⟨mid, inn, y, rfl, h1.symm, hinn, hy, ?_⟩
    have h2 := put_append (ps.drop n) hinn _ _ hm
    rw [hap] at h2
    rw [h2, hy]
theorem Wy.take {W : World} {A : Option Addr} {c : Nat} {ps : List GStep} (h : Wy W A c ps) {n : Nat} (hn : n ≤ ps.length) : Wy W A c (ps.take n) :=
  ⟨h.steps.take n, by have := h.le; rw [List.length_take]; omega, h.cap⟩
theorem mod_nat (k : Int) (np : Nat) : ∃ n : Nat, n ≤ np ∧ max k 0 % ((np : Int) + 1) = n := ⟨(max k 0 % ((np : Int) + 1)).toNat, by
  have h0 : 0 ≤ max k 0 := Int.le_max_right _ _
  have h1 := Int.emod_nonneg (max k 0) (show ((np : Int) + 1) ≠ 0 by omega)
  have h2 := Int.emod_lt_of_pos (max k 0) (show (0 : Int) < (np : Int) + 1 by omega)
  constructor
  · omega
  · omega⟩
theorem Wy.drop {W : World} {a : Addr} {c : Nat} {ps : List GStep} (h : Wy W (some a) c ps) {n : Nat} (hn : n ≤ ps.length) : Wy W (if c = n then some a else some (a.add (n * 3))) (c - n) (ps.drop n) := by
  refine ⟨fun hne => ?_, by have := h.le; rw [List.length_drop]; omega, by have := h.cap; omega⟩
  have hlt : n < ps.length := by
    by_cases e : n < ps.length
    · exact e
    · exact absurd (List.drop_eq_nil_of_le (by omega)) hne
  have hcn : c ≠ n := by have := h.le; omega
  rw [if_neg hcn]
  obtain ⟨a', ha, hs, hl, hc⟩ := h.steps (by intro e; rw [e] at hlt; simp at hlt)
  cases ha
  have he : a.add (n * 3) = ⟨a.block, a.off + n * 3, none⟩ := by
    obtain ⟨b, o, p⟩ := a
    cases hs
    simp only [Addr.add]
    split
    · simp [*]
    · rfl
  rw [he]
  refine ⟨_, rfl, rfl, hl, fun i s hi => ?_⟩
  rw [List.getElem?_drop] at hi
  have := hc _ _ hi
  show W.cell? ⟨a.block, a.off + n * 3 + i * 3, none⟩ = _ ∧ W.cell? ⟨a.block, a.off + n * 3 + i * 3 + 1, none⟩ = _ ∧ W.cell? ⟨a.block, a.off + n * 3 + i * 3 + 2, none⟩ = _
  rw [show a.off + n * 3 + i * 3 = a.off + (n + i) * 3 by omega]
  exact this
theorem Wy.drop_nil {W : World} {c : Nat} {ps : List GStep} (h : Wy W none c ps) (n d : Nat) (hd : d ≤ maxLen) : Wy W none d (ps.drop n) := by
  have e : ps = [] := by
    by_cases e : ps = []
    · exact e
    · obtain ⟨_, ha, _⟩ := h.steps e
      cases ha
  subst e
  exact ⟨fun hne => absurd (by simp) hne, by simp, hd⟩
end Go.Proofs.YtbmfjchdmicdoaaDoor
