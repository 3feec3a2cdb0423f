/- A component that may be done to a value: what One's answer is; the small laws that its walk wants. -/
import Derived.Test.YtamlaknfakaanaaGreatDoorQ16
import Derived.Test.YtamlaknfakaanaaGreatDoorQ34
namespace Go.Proofs.YtamlaknfakaanaaGreatDoor
open Go Go.RowKit
set_option linter.unusedVariables false
set_option linter.unusedSimpArgs false
theorem inside_sound {g h : GV} {s : GStep} (hg : g.Sound) (hi : g.inside s = some h) : h.Sound := by
  rcases inside_cases hi with ⟨_, _, k', _, hgx⟩ | ⟨_, _, _, hgx⟩
  · exact (sound_parts hg).2.1 h (List.mem_of_getElem? hgx)
  · exact (sound_parts hg).2.2 h (List.mem_of_getElem? hgx)
theorem get_soundG : ∀ (p : List GStep) (g h : GV), g.Sound → g.get p = some h → h.Sound
  | [], g, h, hg, e => by simp [GV.get] at e; subst e; exact hg
  | s :: r, g, h, hg, e => by
    simp only [GV.get] at e
    cases hi : g.inside s with
    | none => rw [hi] at e; cases e
    | some y => rw [hi] at e; exact get_soundG r y h (inside_sound hg hi) e
theorem weight_one (g : GV) : 1 ≤ g.weight := by cases g with | mk k n s l ks ov => simp only [GV.weight]; omega
theorem weights_len : ∀ (l : List GV), l.length ≤ GV.weights l
  | [] => by simp
  | x :: r => by have := weights_len r; have := weight_one x; simp only [GV.weights, List.length_cons]; omega
theorem parts_weight (g : GV) : g.str.size ≤ g.weight ∧ g.items.length ≤ g.weight ∧ g.vals.length ≤ g.weight := by
  cases g with
  | mk k n s l ks ov =>
    have h1 := weights_len l
    have h2 := weights_len ov
    simp only [GV.weight, GV.str, GV.items, GV.vals]
    refine ⟨?_, ?_, ?_⟩ <;> omega
def K2 (r s : Nat) (w1 W : World) : Prop := w1.heap.size ≤ W.heap.size ∧ ∀ k, k ≠ r → k ≠ s → k < w1.heap.size → W.heap[k]? = w1.heap[k]?
end Go.Proofs.YtamlaknfakaanaaGreatDoor

