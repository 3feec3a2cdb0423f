/- Stores into blocks of a stretch: what they leave as it was. -/
import Derived.Test.YtoinlehkmgmlbaaDoorBaseA
import Derived.Lib.Hide
namespace Go.Proofs.YtoinlehkmgmlbaaDoor
open Go Go.RowKit

/-- From W to wr cells of blocks from lo up to hi were stored into, and nothing else was done. -/
structure Mess (lo hi : Nat) (W wr : World) : Prop where
  keep : ∀ k, (k < lo ∨ hi ≤ k) → wr.heap[k]? = W.heap[k]?
  shape : ∀ (b : Nat) (cs : Array Value) (t : TypeId), W.heap[b]? = some (Obj.cells cs t (0, 0)) → ∃ cs' : Array Value, cs'.size = cs.size ∧ wr.heap[b]? = some (Obj.cells cs' t (0, 0))
theorem Mess.refl (lo hi : Nat) (W : World) : Mess lo hi W W := ⟨fun _ _ => rfl, fun _ cs _ h => ⟨cs, rfl, h⟩⟩
theorem Mess.set {lo hi : Nat} {W wr : World} (h : Mess lo hi W wr) {p : Addr} (h1 : lo ≤ p.block) (h2 : p.block < hi) (v : Value) : Mess lo hi W (wr.setCell p v) := by
  refine ⟨fun k hk => (Below.heap_setCell wr p v k (by omega)).trans (h.keep k hk), fun b cs t hb => ?_⟩
  obtain ⟨cs', hs, hw⟩ := h.shape b cs t hb
  by_cases e : b = p.block
  · subst e
    by_cases hsp : p.spot.isSome = true
    · exact ⟨cs', hs, by simp [World.setCell, Array.getElem?_modify, hw, hsp]⟩
    · exact ⟨cs'.setIfInBounds p.off v, by simpa using hs, by simp [World.setCell, Array.getElem?_modify, hw, hsp]⟩
  · exact ⟨cs', hs, (Below.heap_setCell wr p v b e).trans hw⟩
theorem Mess.cell {lo hi : Nat} {W wr : World} (h : Mess lo hi W wr) {b o : Nat} {t : TypeId} {ok : Nat → Prop} (hK : Kind W ok b t) {u : Value} (hu : W.cell? ⟨b, o, none⟩ = some u) :
    (∃ u', wr.cell? ⟨b, o, none⟩ = some u') ∧ wr.frozen? ⟨b, o, none⟩ = false := by
  obtain ⟨_, cs, hc⟩ := hK
  obtain ⟨cs', hs, hw⟩ := h.shape b cs t hc
  have ho : o < cs.size := by
    simp [World.cell?, hc] at hu
    exact (Array.getElem?_eq_some_iff.1 hu).1
  refine ⟨⟨cs'[o]'(by omega), ?_⟩, by simp [World.frozen?, hw]⟩
  simp [World.cell?, hw]
theorem Mess.whole {lo hi : Nat} {W wr : World} (h : Mess lo hi W wr) {b : Nat} {t : TypeId} {cs : Array Value} (hW : Whole W b t cs) (hb : b < lo ∨ hi ≤ b) : Whole wr b t cs := hW.of_eq (h.keep b hb)
theorem Mess.from {lo hi : Nat} {W wr : World} (h : Mess lo hi W wr) {ok : Nat → Prop} (ho : ∀ k, ok k → k < lo ∨ hi ≤ k) : From ok W wr := fun k hk _ => h.keep k (ho k hk)
end Go.Proofs.YtoinlehkmgmlbaaDoor
