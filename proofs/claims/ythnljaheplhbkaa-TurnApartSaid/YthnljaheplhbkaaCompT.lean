/- Sound of a component, the program's. -/
import Derived.Test.YthnljaheplhbkaaCompS
import Derived.BigQuiet
import Derived.Deep.QuietTactic
namespace Go.Proofs.Ythnljaheplhbkaa
open Go Go.RowKit
open Go.Sort (grow)
set_option linter.unusedVariables false
set_option linter.unusedSimpArgs false

theorem bool_det {P : Prop} {f : FuncId} {args : Array Value} {W : World} (h : Calls Try.prog f args W (BoolPost P W)) : ∀ bb : Bool, (bb = true ↔ P) → Calls Try.prog f args W fun e w'' => e = .returned (.bool bb) ∧ Below W.heap.size W w'' := fun bb hbb =>
  h.mono fun e w'' h => by
    obtain ⟨b2, rfl, hb2, hbel⟩ := h
    have : b2 = bb := by rw [Bool.eq_iff_iff, hb2, hbb]
    subst this
    exact ⟨rfl, hbel⟩
theorem bool_some (P : Prop) : ∃ bb : Bool, bb = true ↔ P := by
  by_cases h : P
  · exact ⟨true, by simp [h]⟩
  · exact ⟨false, by simp [h]⟩

theorem noG_same : noG.Same noG := same_refl noG
theorem empty_list : (⟨#[]⟩ : ByteArray).toList = [] := by decide +kernel

end Go.Proofs.Ythnljaheplhbkaa
