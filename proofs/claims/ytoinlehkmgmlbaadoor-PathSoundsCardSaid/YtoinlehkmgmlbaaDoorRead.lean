/- A walk over all that is in a value whose body reads: what lies ahead lies where it lay when the walk began. -/
import Derived.Test.YtoinlehkmgmlbaaDoorAll
namespace Go.Proofs.YtoinlehkmgmlbaaDoor
open Go Go.RowKit Go.Shelf
attribute [local go_sem] Oper.semAt_some

theorem Whole.apart {W : World} {b l : Nat} {t : TypeId} {cs : Array Value} {o : Obj} (h : Whole W b t cs) (hl : W.heap[l]? = some o) (ho : o.isCells = false) (o' : Obj) : Whole (W.putObj l o') b t cs := by
  refine h.of_eq (World.putObj_heap_other ?_)
  rintro rfl
  rw [show W.heap[b]? = _ from h] at hl
  cases hl
  cases ho
theorem below_apart {n0 l : Nat} {w0 W : World} (h : Below n0 w0 W) (hl : n0 ≤ l) {o : Obj} (hk : W.heap[l]? = some o) (o' : Obj) : Below n0 w0 (W.putObj l o') :=
  h.trans ((Below.refl n0 W).grown (grownBy_putObj' W l o') (by have := (Array.getElem?_eq_some_iff.1 hk).1; omega) (fun k e => by cases e; omega))
theorem KidsAt.apart {W : World} {x : Item} {e : TypeId} {lb lo ob oo l : Nat} {o : Obj} (h : KidsAt W x e lb lo ob oo) (hl : W.heap[l]? = some o) (ho : o.isCells = false) (o' : Obj) : KidsAt (W.putObj l o') x e lb lo ob oo := by
  obtain ⟨t, cs, hne, hw⟩ := h.whole
  have hw' := hw.apart hl ho o'
  have he : (W.putObj l o').heap[x.b]? = W.heap[x.b]? := (show _ = _ from hw').trans (show W.heap[x.b]? = _ from hw).symm
  obtain ⟨A1, c1, h1, h1'⟩ := h.lst
  obtain ⟨A2, c2, h2, h2'⟩ := h.obj
  exact ⟨⟨t, cs, hne, hw'⟩, ⟨A1, c1, (World.cell?_of_block (a := ⟨x.b, x.off + 3, none⟩) he).trans h1, h1'⟩, ⟨A2, c2, (World.cell?_of_block (a := ⟨x.b, x.off + 4, none⟩) he).trans h2, h2'⟩⟩
theorem Owned.apart {W : World} {e : TypeId} {own : List (Nat × Array Value)} {l : Nat} {o : Obj} (h : Owned e own W) (hl : W.heap[l]? = some o) (ho : o.isCells = false) (o' : Obj) : Owned e own (W.putObj l o') := fun p hp => (h p hp).apart hl ho o'
theorem pre_apart {B : Nat} {J : List Item → World → Prop} (hJ : ∀ S, Apart B (J S)) (x : Due) : Apart B (Due.Pre J x) :=
  fun W l o o' hB hl ho ho' h => ⟨hJ _ W l o o' hB hl ho ho' h.1, h.2.apart hl ho o'⟩
theorem post_apart {B : Nat} {J : List Item → World → Prop} (hJ : ∀ S, Apart B (J S)) (x : Due) : Apart B (Due.Post J x) := by
  rintro W l o o' hB hl ho ho' ⟨h, lb, lo, ob, oo, hk, hj⟩
  exact ⟨h.apart hl ho o', lb, lo, ob, oo, hk.apart hl ho o', hJ _ W l o o' hB hl ho ho' hj⟩

section
variable {n0 : Nat} {w0 : World} {bm : Nat} {tm : TypeId} {C : List Item → Value → Prop}
end

theorem Whole.ne {W : World} {b b' : Nat} {t t' : TypeId} {cs cs' : Array Value} (h : Whole W b t cs) (h' : Whole W b' t' cs') (hne : t ≠ t') : b ≠ b' := by
  rintro rfl
  have h2 : some (Obj.cells cs t (0, 0)) = some (Obj.cells cs' t' (0, 0)) := (show W.heap[b]? = _ from h).symm.trans h'
  simp at h2
  exact hne h2.2
theorem Owned.far {W : World} {own : List (Nat × Array Value)} {e t : TypeId} {bm : Nat} {cs : Array Value} (h : Owned e own W) (hw : Whole W bm t cs) (hne : t ≠ e) (j : Nat) (u : Value) : Owned e own (W.setCell ⟨bm, j, none⟩ u) :=
  fun p hp => (h p hp).far ((h p hp).ne hw (fun e' => hne e'.symm)) u
theorem Owned.alloc {W : World} {own : List (Nat × Array Value)} {e : TypeId} (h : Owned e own W) (o : Obj) : Owned e own (W.alloc o) := fun p hp => (h p hp).alloc o
theorem Owned.below {W W' : World} {own : List (Nat × Array Value)} {e : TypeId} (h : Owned e own W) (hb : Below W.heap.size W W') : Owned e own W' := fun p hp => (h p hp).below hb (h p hp).lt

theorem keeps_below {D : Nat} {W W' : World} (hb : Below W.heap.size W W') : KeepsFrom D W W' := ⟨hb.size, fun k _ _ hk _ => (hb.block k (Array.getElem?_eq_some_iff.1 hk).1).trans hk⟩

theorem call_all (p : Option Addr) (w : World) : Calls Tryd.prog 42 #[.pointer p] w fun e w' => e = .returned (.func (.func 53) #[] #[.pointer (some ⟨w.heap.size, 0, none⟩)]) ∧ w.alloc (.cells #[.pointer p] 60) = w' := by
  go_enter Tryd.func42, Tryd.ntmps42
  go_wp2
  go_ret
  exact ⟨rfl, rfl⟩

def dmaxs : List Item → Nat
  | [] => 0
  | x :: r => max (x.d + x.g.deep) (dmaxs r)
theorem dmaxs_append (a b : List Item) : dmaxs (a ++ b) = max (dmaxs a) (dmaxs b) := by
  induction a with
  | nil => simp [dmaxs]
  | cons x r ih => simp [dmaxs, ih, Nat.max_assoc]
theorem dmaxs_items {d b step : Nat} : ∀ {off : Nat} {l : List GV}, max d (dmaxs (itemsAt (d + 1) b step off l)) = d + GV.deeps l
  | _, [] => by simp [itemsAt, dmaxs, GV.deeps]
  | off, g :: r => by
    have := dmaxs_items (d := d) (b := b) (step := step) (off := off + step) (l := r)
    simp only [itemsAt, dmaxs, GV.deeps]
    omega
theorem dmaxs_kids (x : Item) (lb lo ob oo : Nat) : max x.d (dmaxs (kids x lb lo ob oo)) = x.d + x.g.deep := by
  have h1 := dmaxs_items (d := x.d) (b := lb) (step := 5) (off := lo) (l := x.g.items)
  have h2 := dmaxs_items (d := x.d) (b := ob) (step := 6) (off := oo + 1) (l := x.g.vals)
  have h3 : x.g.deep = max (GV.deeps x.g.items) (GV.deeps x.g.vals) := by cases x.g with | mk k n s l ks ov => simp only [GV.deep, GV.items, GV.vals]
  unfold kids
  rw [dmaxs_append, h3]
  omega

end Go.Proofs.YtoinlehkmgmlbaaDoor
