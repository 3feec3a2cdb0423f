/- The document's own Weight: what it comes to for a value, whatever it is. -/
import Derived.Test.YtoinlehkmgmlbaaDoorRefD
import Derived.Test.YtoinlehkmgmlbaaDoorWeight
import Derived.BigQuiet
import Derived.Lib.QuietBelow
namespace Go.Proofs.YtoinlehkmgmlbaaDoor
open Go Go.RowKit Go.Sort

theorem wrap_small (x : Int) (h0 : 0 ≤ x) (h1 : x < 9223372036854775808) : IntKind.i64.wrap x = x := by
  simp [IntKind.wrap, IntKind.bits, IntKind.signed]
  omega
theorem weights_get : ∀ (l : List GV) (k : Nat) (h : k < l.length), l[k].weight ≤ GV.weights l
  | [], _, h => by simp at h
  | x :: r, 0, _ => by simp [GV.weights]
  | x :: r, k + 1, h => by
    have := weights_get r k (by simpa using h)
    simp only [GV.weights, List.getElem_cons_succ]
    omega

/-- Between the rounds: how far, and what was come to. -/
def WtRel (W0 : World) (ks : List ByteArray) (l : List GV) (z : Nat) (n i : Value) (wr : World) : Prop := ∃ k : Nat, i = .int .i64 k ∧ k ≤ l.length ∧ n = .int .i64 (z + ksum (ks.take k) + GV.weights (l.take k) : Nat) ∧ Below W0.heap.size W0 wr

end Go.Proofs.YtoinlehkmgmlbaaDoor
