/- Sound, the program's. -/
import Derived.Test.YtoinlehkmgmlbaaDoorWeight
import Derived.Test.YtoinlehkmgmlbaaDoorItself
namespace Go.Proofs.YtoinlehkmgmlbaaDoor
open Go Go.RowKit Go.Shelf
attribute [local go_sem] Oper.semAt_some


mutual
/-- A value is sound. -/
def GV.Sound : GV → Prop
  | .mk k n s l ks ov => SelfP k n s l ks ov ∧ GV.Sounds l ∧ GV.Sounds ov
def GV.Sounds : List GV → Prop
  | [] => True
  | g :: r => GV.Sound g ∧ GV.Sounds r
end
theorem sounds_items {d b step : Nat} : ∀ {off : Nat} {l : List GV}, (∀ x ∈ itemsAt d b step off l, x.g.Sound) ↔ GV.Sounds l
  | _, [] => by simp [itemsAt, GV.Sounds]
  | _, _ :: r => by simp [itemsAt, GV.Sounds, sounds_items (l := r)]
theorem sound_kids (x : Item) (lb lo ob oo : Nat) : x.g.Sound ↔ SelfOk x.g ∧ ∀ y ∈ kids x lb lo ob oo, y.g.Sound := by
  have h : (∀ y ∈ kids x lb lo ob oo, y.g.Sound) ↔ GV.Sounds x.g.items ∧ GV.Sounds x.g.vals := by
    unfold kids
    rw [← sounds_items (d := x.d + 1) (b := lb) (step := 5) (off := lo), ← sounds_items (d := x.d + 1) (b := ob) (step := 6) (off := oo + 1)]
    simp only [List.mem_append]
    exact ⟨fun h => ⟨fun y hy => h y (.inl hy), fun y hy => h y (.inr hy)⟩, fun h y hy => hy.elim (h.1 y) (h.2 y)⟩
  rw [h]
  unfold SelfOk
  cases x.g with | mk k n s l ks ov => simp only [GV.Sound, GV.kind, GV.num, GV.str, GV.items, GV.keys, GV.vals]
end Go.Proofs.YtoinlehkmgmlbaaDoor
