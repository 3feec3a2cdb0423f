/- Each value is the same as itself. -/
import Derived.Test.YtmmjkhkcffgeiaaDoorRefS
namespace Go.Proofs.YtmmjkhkcffgeiaaDoor
open Go Go.RowKit

mutual
theorem same_refl : ∀ (g : GV), g.Same g
  | .mk k n s l ks ov => by
    simp only [GV.Same, GV.items, GV.vals]
    exact ⟨⟨rfl, rfl, rfl, rfl, rfl⟩, sames_refl l, sames_refl ov⟩
theorem sames_refl : ∀ (l : List GV), GV.Sames l l
  | [] => by simp [GV.Sames]
  | x :: r => by simp only [GV.Sames]; exact ⟨same_refl x, sames_refl r⟩
end
end Go.Proofs.YtmmjkhkcffgeiaaDoor
