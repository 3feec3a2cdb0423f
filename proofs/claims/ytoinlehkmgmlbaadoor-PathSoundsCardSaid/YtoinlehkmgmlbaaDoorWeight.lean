/- Weight, the program's. -/
import Derived.Test.YtoinlehkmgmlbaaDoorRead
import Derived.Sort.CutIn
namespace Go.Proofs.YtoinlehkmgmlbaaDoor
open Go Go.RowKit Go.Shelf
attribute [local go_sem] Oper.semAt_some


def wsum : List Item → Nat
  | [] => 0
  | x :: r => x.g.weight + wsum r
theorem wsum_append (a b : List Item) : wsum (a ++ b) = wsum a + wsum b := by
  induction a with
  | nil => simp [wsum]
  | cons x r ih => simp [wsum, ih]; omega
theorem wsum_items {d b step : Nat} : ∀ {off : Nat} {l : List GV}, wsum (itemsAt d b step off l) = GV.weights l
  | _, [] => by simp [itemsAt, wsum, GV.weights]
  | _, _ :: r => by simp [itemsAt, wsum, GV.weights, wsum_items (l := r)]
def ksum (ks : List ByteArray) : Nat := (ks.map (·.size)).sum
theorem ksum_take (ks : List ByteArray) (k : Nat) (h : k < ks.length) : ksum (ks.take (k + 1)) = ksum (ks.take k) + ks[k].size := by
  unfold ksum; rw [List.take_succ_eq_append_getElem h, List.map_append, List.sum_append]; simp
theorem ksum_le (ks : List ByteArray) (k : Nat) : ksum (ks.take k) ≤ ksum ks := by
  have : ksum (ks.take k ++ ks.drop k) = ksum (ks.take k) + ksum (ks.drop k) := by unfold ksum; rw [List.map_append, List.sum_append]
  rw [List.take_append_drop] at this
  omega
theorem weight_eq (x : Item) (lb lo ob oo : Nat) : x.g.weight = 1 + x.g.str.size + ksum x.g.keys + wsum (kids x lb lo ob oo) := by
  unfold kids
  rw [wsum_append, wsum_items, wsum_items]
  cases x.g with | mk k n s l ks ov => simp only [GV.weight, GV.str, GV.items, GV.keys, GV.vals, ksum]; omega
theorem weight_le {x : Item} : ∀ {S : List Item}, x ∈ S → x.g.weight ≤ wsum S
  | [], h => by cases h
  | y :: r, h => by
    simp only [wsum]
    rcases List.mem_cons.1 h with rfl | h
    · omega
    · have := weight_le h; omega
/-- Between the rounds of the loop over the keys. -/
def KeyRel (n0 bm D m : Nat) (w0 W : World) (own : List (Nat × Array Value)) (ks : List ByteArray) (i : Value) (wr : World) : Prop :=
  ∃ k : Nat, i = .int .i64 k ∧ k ≤ ks.length ∧ Whole wr bm 3 #[.int .i64 ((m + ksum (ks.take k) : Nat) : Int)] ∧ Below n0 w0 wr ∧ Owned 88 own wr ∧ KeepsFrom D W wr
theorem size_le_weight : ∀ (g : GV), g.size ≤ g.weight := by
  have h : (∀ g : GV, g.size ≤ g.weight) ∧ (∀ l : List GV, GV.sizes l ≤ GV.weights l) := by
    refine ⟨fun g => ?_, fun l => ?_⟩
    · exact GV.rec (motive_1 := fun g => g.size ≤ g.weight) (motive_2 := fun l => GV.sizes l ≤ GV.weights l) (fun k n s l ks ov h1 h2 => by simp only [GV.size, GV.weight]; omega) (by simp [GV.sizes]) (fun a r h1 h2 => by simp only [GV.sizes, GV.weights]; omega) g
    · exact GV.rec_1 (motive_1 := fun g => g.size ≤ g.weight) (motive_2 := fun l => GV.sizes l ≤ GV.weights l) (fun k n s l ks ov h1 h2 => by simp only [GV.size, GV.weight]; omega) (by simp [GV.sizes]) (fun a r h1 h2 => by simp only [GV.sizes, GV.weights]; omega) l
  exact h.1

end Go.Proofs.YtoinlehkmgmlbaaDoor
