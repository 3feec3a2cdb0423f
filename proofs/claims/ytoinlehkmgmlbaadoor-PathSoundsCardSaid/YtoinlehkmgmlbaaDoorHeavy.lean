/- heavy: what is looked at is of 200 pieces and 3000 bytes at most. -/
import Derived.Test.YtoinlehkmgmlbaaDoorGhost
import Derived.WalkKit
import Derived.WalkSpells
import Derived.WalkLawsBesides
import Derived.Lib.Hide
namespace Go.Proofs.YtoinlehkmgmlbaaDoor
open Go Go.RowKit

def tot : List GTok → Nat
  | [] => 0
  | t :: r => t.s.size + 1 + tot r
theorem tot_snoc (l : List GTok) (t : GTok) : tot (l ++ [t]) = tot l + (t.s.size + 1) := by
  induction l with
  | nil => simp [tot]
  | cons x r ih => simp [tot, ih]; omega
theorem tot_take (ts : List GTok) (k : Nat) (h : k < ts.length) : tot (ts.take (k + 1)) = tot (ts.take k) + ((ts[k]).s.size + 1) := by
  rw [List.take_succ_eq_append_getElem h, tot_snoc]
theorem tot_bound (ts : List GTok) (M : Nat) (h : ∀ t ∈ ts, t.s.size ≤ M) : tot ts ≤ ts.length * (M + 1) := by
  induction ts with
  | nil => simp [tot]
  | cons x r ih =>
    have h1 := h x (by simp)
    have h2 := ih (fun t ht => h t (by simp [ht]))
    simp only [tot, List.length_cons, Nat.succ_mul]
    omega

def HeavyPost (ts : List GTok) (w : World) (e : Ending) (w' : World) : Prop :=
  ∃ b, e = .returned (.bool b) ∧ w = w' ∧ (b = false → ts.length ≤ 200 ∧ tot ts ≤ 3000)

def HeavyRel (ts : List GTok) (n i : Value) : Prop :=
  ∃ (k : Nat) (z : Int), k ≤ ts.length ∧ i = .int .i64 k ∧ n = .int .i64 z ∧ (ts.length ≤ 200 → z = tot (ts.take k))

end Go.Proofs.YtoinlehkmgmlbaaDoor
