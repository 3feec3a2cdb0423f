/- No kind in a value is negative. -/
import Derived.Test.YtoinlehkmgmlbaaDoorGhost
namespace Go.Proofs.YtoinlehkmgmlbaaDoor
open Go Go.RowKit
mutual
/-- No kind in it is negative. -/
def GV.Pos : GV → Prop
  | .mk k _ _ l _ ov => 0 ≤ k ∧ GV.Poss l ∧ GV.Poss ov
def GV.Poss : List GV → Prop
  | [] => True
  | g :: r => GV.Pos g ∧ GV.Poss r
end
theorem poss_iff : ∀ (l : List GV), GV.Poss l ↔ ∀ x ∈ l, x.Pos
  | [] => by simp [GV.Poss]
  | x :: r => by simp [GV.Poss, poss_iff r]
theorem pos_iff (g : GV) : g.Pos ↔ 0 ≤ g.kind ∧ (∀ x ∈ g.items, x.Pos) ∧ (∀ x ∈ g.vals, x.Pos) := by
  rw [← poss_iff, ← poss_iff]
  cases g with | mk k n s l ks ov => simp only [GV.Pos, GV.kind, GV.items, GV.vals]
end Go.Proofs.YtoinlehkmgmlbaaDoor
