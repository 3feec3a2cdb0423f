/- Sound of a path: the program's, and the document's own. -/
import Derived.Test.YthnljaheplhbkaaBaseG
import Derived.Test.YthnljaheplhbkaaRefO
import Derived.Test.YthnljaheplhbkaaLaysP
namespace Go.Proofs.Ythnljaheplhbkaa
open Go Go.RowKit

/-- A step that is none. -/
def oddB (s : GStep) : Bool := if s.list then (decide (s.i < 0) || !s.key.toList.isEmpty) else (!(s.i == 0) || !valid s.key)
/-- A path is sound. -/
def soundP (ps : List GStep) : Bool := decide (ps.length ≤ 16) && !ps.any oddB

/-- A step whose key is of a size that a machine can have. -/
structure SStep where
  s : GStep
  h : s.key.size ≤ 9223372036854775807
instance : Inhabited SStep := ⟨⟨⟨false, 0, ⟨#[]⟩⟩, by decide⟩⟩
def encS (x : SStep) : List Value := [.bool x.s.list, .int .i64 x.s.i, .string x.s.key]
def sized (ps : List GStep) (h : ∀ s ∈ ps, s.key.size ≤ 9223372036854775807) : List SStep := ps.pmap (fun s hs => ⟨s, hs⟩) h
theorem sized_len (ps : List GStep) (h : ∀ s ∈ ps, s.key.size ≤ 9223372036854775807) : (sized ps h).length = ps.length := by simp [sized]
theorem sized_get (ps : List GStep) (h : ∀ s ∈ ps, s.key.size ≤ 9223372036854775807) (j : Nat) (hj : j < ps.length) : ((sized ps h)[j]!).s = ps[j] := by
  have hl : j < (sized ps h).length := by rw [sized_len]; exact hj
  rw [getElem!_pos (sized ps h) j hl]
  simp [sized]
theorem sized_any (p : GStep → Bool) : ∀ (ps : List GStep) (h : ∀ s ∈ ps, s.key.size ≤ 9223372036854775807), (sized ps h).any (fun x => p x.s) = ps.any p
  | [], _ => rfl
  | x :: r, h => by
    have := sized_any p r (fun s hs => h s (by simp [hs]))
    simp only [sized] at this
    simp [sized, this]
theorem sized_cells {ps : List GStep} (h : ∀ s ∈ ps, s.key.size ≤ 9223372036854775807) {W : World} {b o : Nat} (hP : StepsAt W ⟨b, o, none⟩ ps) : ∀ j, j < (sized ps h).length → ∀ i v, (encS (sized ps h)[j]!)[i]? = some v → W.cell? ⟨b, o + j * 3 + i, none⟩ = some v := fun j hj i v hv => by
  rw [sized_len] at hj
  obtain ⟨h0, h1, h2⟩ := hP j ps[j] (List.getElem?_eq_getElem hj)
  unfold encS at hv
  rw [sized_get ps h j hj] at hv
  match i with
  | 0 => simp at hv; subst hv; exact h0
  | 1 => simp at hv; subst hv; exact h1
  | 2 => simp at hv; subst hv; exact h2
  | i + 3 => simp at hv

/-- A step of the document's own is one. -/
def badB (s : GStep) : Bool := (s.list && (!s.key.toList.isEmpty || decide (s.i < 0))) || (!s.list && !(s.i == 0)) || !valid s.key
theorem bad_odd (s : GStep) : badB s = oddB s := by
  unfold badB oddB
  cases hl : s.list with
  | true =>
    simp only [Bool.true_and, Bool.not_true, Bool.false_and, Bool.or_false, if_true]
    rcases str_cases s.key with he | ⟨h1, h2⟩
    · rw [valid_empty he]; simp [he]
    · simp [h2]
  | false => simp
def SoundRelP (W0 : World) (ps : List GStep) (i : Value) (wr : World) : Prop := ∃ k : Nat, i = .int .i64 k ∧ k ≤ ps.length ∧ (ps.take k).any oddB = false ∧ Below W0.heap.size W0 wr
theorem any_take_true {ps : List GStep} {k : Nat} (hk : k < ps.length) (h : oddB ps[k] = true) : ps.any oddB = true := List.any_eq_true.2 ⟨ps[k], List.getElem_mem hk, h⟩
theorem any_take_succ {ps : List GStep} {k : Nat} (hk : k < ps.length) (h0 : (ps.take k).any oddB = false) (h : oddB ps[k] = false) : (ps.take (k + 1)).any oddB = false := by
  rw [List.take_succ_eq_append_getElem hk, List.any_append, h0]
  simp [h]

end Go.Proofs.Ythnljaheplhbkaa
