/- soundItself: what is asked of a value apart from the values in it. -/
import Derived.Test.YtoinlehkmgmlbaaDoorSelf
namespace Go.Proofs.YtoinlehkmgmlbaaDoor
open Go Go.RowKit Go.Shelf

/-- A value is sound, apart from the values in it. -/
def SelfP (gk gn : Int) (gs : ByteArray) (gl : List GV) (gy : List ByteArray) (go : List GV) : Prop :=
  (gk = 0 ∨ gk = 1 ∨ gk = 2 ∨ gk = 3 ∨ gk = 4 ∨ gk = 5) ∧
  (gk = 2 ∨ gn = 0 ∨ gk = 1 ∧ gn = 1) ∧ (gk = 3 ∧ valid gs = true ∨ gk ≠ 3 ∧ gs.toList = []) ∧
  (gk = 4 ∨ gl = []) ∧ (gk = 5 ∧ KeysOk gy ∨ gk ≠ 5 ∧ go = [])
def SelfOk (g : GV) : Prop := SelfP g.kind g.num g.str g.items g.keys g.vals

end Go.Proofs.YtoinlehkmgmlbaaDoor
