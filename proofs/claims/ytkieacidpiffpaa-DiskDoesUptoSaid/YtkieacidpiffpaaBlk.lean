/- Blocks that are known whole. -/
import Derived.Test.YtkieacidpiffpaaProg
import Derived.WalkKit
import Derived.Maps.AppendAt
namespace Go.Proofs.Ytkieacidpiffpaa
open Go Go.RowKit
set_option linter.unusedVariables false
set_option linter.unusedSimpArgs false

/-- Block b is the cells cs of type t, and nothing else. -/
def Whole (W : World) (b : Nat) (t : TypeId) (cs : Array Value) : Prop := W.heap[b]? = some (.cells cs t (0, 0))
section
variable {W W' : World} {b : Nat} {t : TypeId} {cs : Array Value}
theorem Whole.lt (h : Whole W b t cs) : b < W.heap.size := (Array.getElem?_eq_some_iff.1 (show W.heap[b]? = _ from h)).1
theorem Whole.cell (h : Whole W b t cs) (i : Nat) : W.cell? ⟨b, i, none⟩ = cs[i]? := by unfold Whole at h; simp [World.cell?, h]
theorem Whole.frozen (h : Whole W b t cs) (i : Nat) : W.frozen? ⟨b, i, none⟩ = false := by unfold Whole at h; simp [World.frozen?, h]
theorem Whole.of_eq (h : Whole W b t cs) (e : W'.heap[b]? = W.heap[b]?) : Whole W' b t cs := Eq.trans e h
theorem Whole.below {B : Nat} (h : Whole W b t cs) (hb : Below B W W') (hB : b < B) : Whole W' b t cs := h.of_eq (hb.block b hB)
theorem Whole.grown {row : Option Nat} (h : Whole W b t cs) (hb : W.grownBy W' row) (hr : some b ≠ row) : Whole W' b t cs := h.of_eq (hb.block b h.lt hr)
theorem Whole.alloc (h : Whole W b t cs) (o : Obj) : Whole (W.alloc o) b t cs := h.of_eq (Below.heap_alloc W o b h.lt)
theorem Whole.new (W : World) (t : TypeId) (cs : Array Value) : Whole (W.alloc (.cells cs t)) W.heap.size t cs := heap_alloc_new W _
theorem Whole.put (h : Whole W b t cs) (i : Nat) (u : Value) : Whole (W.setCell ⟨b, i, none⟩ u) b t (cs.setIfInBounds i u) := by
  unfold Whole at h ⊢
  simp [World.setCell, Array.getElem?_modify, h]
theorem Whole.far (h : Whole W b t cs) {p : Addr} (hp : b ≠ p.block) (u : Value) : Whole (W.setCell p u) b t cs := h.of_eq (Below.heap_setCell W p u b hp)
end

theorem cell_alloc {W : World} {a : Addr} {v : Value} (o : Obj) (h : W.cell? a = some v) : (W.alloc o).cell? a = some v :=
  (World.cell?_of_block (Below.heap_alloc W o a.block (World.block_lt_of_cell? W a h))).trans h
theorem frozen_alloc {W : World} {a : Addr} {v : Value} (o : Obj) (h : W.cell? a = some v) (hf : W.frozen? a = false) : (W.alloc o).frozen? a = false :=
  (World.frozen?_of_block (Below.heap_alloc W o a.block (World.block_lt_of_cell? W a h))).trans hf

theorem bcell {W w1 : World} (hb : Below W.heap.size W w1) : (∀ b o, b < W.heap.size → w1.cell? ⟨b, o, none⟩ = W.cell? ⟨b, o, none⟩) ∧ (∀ b o, b < W.heap.size → w1.frozen? ⟨b, o, none⟩ = W.frozen? ⟨b, o, none⟩) :=
  ⟨fun b o h => hb.cell (p := ⟨b, o, none⟩) h, fun b o h => hb.frozen (p := ⟨b, o, none⟩) h⟩
end Go.Proofs.Ytkieacidpiffpaa
