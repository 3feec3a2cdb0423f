/- What lies ahead in a walk over all that is in a value: items, their cells, their number. Nothing is walked here. -/
import Derived.Test.YtoinlehkmgmlbaaDoorRows2
import Derived.Test.YtoinlehkmgmlbaaDoorRangeLaw
namespace Go.Proofs.YtoinlehkmgmlbaaDoor
open Go Go.RowKit

/-- A value that lies ahead: how deep, where, which. -/
structure Item where
  d : Nat
  b : Nat
  off : Nat
  g : GV

def Item.cells (x : Item) : List Value := [.int .i64 x.d, .pointer (some ⟨x.b, x.off, none⟩)]
def cellsOf : List Item → List Value
  | [] => []
  | x :: r => x.cells ++ cellsOf r
theorem cellsOf_append (a b : List Item) : cellsOf (a ++ b) = cellsOf a ++ cellsOf b := by
  induction a with
  | nil => rfl
  | cons x r ih => simp [cellsOf, ih]
theorem cellsOf_length (a : List Item) : (cellsOf a).length = a.length * 2 := by
  induction a with
  | nil => rfl
  | cons x r ih => simp [cellsOf, Item.cells, ih]; omega

/-- The values of a list, from a place on. -/
def itemsAt (d b step : Nat) : Nat → List GV → List Item
  | _, [] => []
  | off, g :: r => ⟨d, b, off, g⟩ :: itemsAt d b step (off + step) r
theorem itemsAt_length {d b step : Nat} : ∀ {off : Nat} {l : List GV}, (itemsAt d b step off l).length = l.length
  | _, [] => rfl
  | _, _ :: r => by simp [itemsAt, itemsAt_length (l := r)]
theorem itemsAt_take {d b step : Nat} : ∀ {off : Nat} {l : List GV} {k : Nat} (_ : k < l.length), (itemsAt d b step off l).take (k + 1) = (itemsAt d b step off l).take k ++ [⟨d, b, off + k * step, l[k]⟩]
  | off, g :: r, 0, _ => by simp [itemsAt]
  | off, g :: r, k + 1, h => by
    simp only [itemsAt, List.take_succ_cons, List.cons_append, List.getElem_cons_succ]
    rw [itemsAt_take (l := r) (by simpa using h)]
    simp only [Nat.succ_mul, Nat.add_assoc, Nat.add_comm step]

def isum : List Item → Nat
  | [] => 0
  | x :: r => x.g.size + isum r
theorem isum_append (a b : List Item) : isum (a ++ b) = isum a + isum b := by
  induction a with
  | nil => simp [isum]
  | cons x r ih => simp [isum, ih]; omega
theorem isum_items {d b step : Nat} : ∀ {off : Nat} {l : List GV}, isum (itemsAt d b step off l) = GV.sizes l
  | _, [] => by simp [itemsAt, isum, GV.sizes]
  | _, _ :: r => by simp [itemsAt, isum, GV.sizes, isum_items (l := r)]
theorem size_pos (g : GV) : 1 ≤ g.size := by cases g with | mk k n s l ks ov => simp only [GV.size]; omega
theorem size_eq (g : GV) : g.size = 1 + GV.sizes g.items + GV.sizes g.vals := by cases g with | mk k n s l ks ov => simp only [GV.size, GV.items, GV.vals]
theorem len_isum (S : List Item) : S.length ≤ isum S := by
  induction S with
  | nil => simp
  | cons x r ih => have := size_pos x.g; simp [isum]; omega
theorem len_sizes (l : List GV) : l.length ≤ GV.sizes l := by
  induction l with
  | nil => simp
  | cons x r ih => have := size_pos x; simp [GV.sizes]; omega
theorem mem_isum {x : Item} {S : List Item} (h : x ∈ S) : x.g.size ≤ isum S := by
  induction S with
  | nil => cases h
  | cons y r ih =>
    simp only [isum]
    rcases List.mem_cons.1 h with rfl | h
    · omega
    · have := ih h; omega
theorem mem_items {d b step : Nat} : ∀ {off : Nat} {l : List GV} {x : Item}, x ∈ itemsAt d b step off l → x.d = d ∧ x.g.size ≤ GV.sizes l
  | _, [], _, h => by simp [itemsAt] at h
  | _, g :: r, x, h => by
    simp only [itemsAt, List.mem_cons] at h
    simp only [GV.sizes]
    rcases h with rfl | h
    · exact ⟨rfl, by simp⟩
    · have := mem_items h
      exact ⟨this.1, by omega⟩

/-- What is in x, as memory W has it: the lists' places may have turned since x was laid by, their values not. -/
structure KidsAt (W : World) (x : Item) (spot : TypeId) (lb lo ob oo : Nat) : Prop where
  whole : ∃ e cs, e ≠ spot ∧ Whole W x.b e cs
  lst : ∃ A c, W.cell? ⟨x.b, x.off + 3, none⟩ = some (.slice A x.g.items.length c) ∧ (x.g.items ≠ [] → A = some ⟨lb, lo, none⟩)
  obj : ∃ A c, W.cell? ⟨x.b, x.off + 4, none⟩ = some (.slice A x.g.vals.length c) ∧ (x.g.vals ≠ [] → A = some ⟨ob, oo, none⟩)
def kids (x : Item) (lb lo ob oo : Nat) : List Item := itemsAt (x.d + 1) lb 5 lo x.g.items ++ itemsAt (x.d + 1) ob 6 (oo + 1) x.g.vals
theorem isum_kids (x : Item) (lb lo ob oo : Nat) : isum (kids x lb lo ob oo) + 1 = x.g.size := by
  unfold kids; rw [isum_append, isum_items, isum_items, size_eq]; omega

/-- Only blocks of cells of one type, from one block on, have turned, and new ones come. -/
structure But (e : TypeId) (base : Nat) (A B : World) : Prop where
  os : B.os = A.os
  tape : B.tape = A.tape
  output : B.output = A.output
  size : A.heap.size ≤ B.heap.size
  same : ∀ (k : Nat) (o : Obj), A.heap[k]? = some o → (k < base ∨ ∀ cs, o ≠ Obj.cells cs e (0, 0)) → B.heap[k]? = some o
section
variable {e : TypeId} {base : Nat} {A B C : World}
theorem But.refl (e : TypeId) (base : Nat) (A : World) : But e base A A := ⟨rfl, rfl, rfl, Nat.le_refl _, fun _ _ h _ => h⟩
theorem But.trans (h : But e base A B) (k : But e base B C) : But e base A C := ⟨k.os.trans h.os, k.tape.trans h.tape, k.output.trans h.output, Nat.le_trans h.size k.size, fun i o hi ho => k.same i o (h.same i o hi ho) ho⟩
theorem But.alloc (h : But e base A B) (o : Obj) : But e base A (B.alloc o) := h.trans ⟨rfl, rfl, rfl, by simp, fun k _ hk _ => (Below.heap_alloc B o k (Array.getElem?_eq_some_iff.1 hk).1).trans hk⟩
theorem But.drew (h : But e base A B) : But e base A B.drew := ⟨h.os, h.tape, h.output, h.size, h.same⟩
theorem But.grown {size n : Nat} {v : Value} {xs : List Value} (h : But e base A B) (ho : B.ownsRow base e size v n xs) (hg : B.grownBy C v.ownBlock) : But e base A C :=
  h.trans ⟨hg.os, hg.tape, hg.output, hg.size, fun k o hk hne => by
    refine (hg.block k (Array.getElem?_eq_some_iff.1 hk).1 (fun hv => ?_)).trans hk
    rcases ho.2 with ⟨rfl, _⟩ | ⟨g, cap, cur, rfl, hb, hh, _⟩
    · simp [Value.ownBlock] at hv
    · simp [Value.ownBlock] at hv
      subst hv
      rw [hh] at hk
      cases hk
      rcases hne with hlt | hne
      · omega
      · exact hne cur rfl⟩
theorem But.whole {t : TypeId} {b : Nat} {cs : Array Value} (h : But e base A B) (hw : Whole A b t cs) (hne : t ≠ e) : Whole B b t cs := h.same b _ hw (.inr fun cs' hc => by cases hc; exact hne rfl)
theorem But.others (h : But e base A B) (D : Nat) : KeepsFrom D A B := ⟨h.size, fun k o _ hk hc => h.same k o hk (.inr fun cs e' => by subst e'; cases hc)⟩
theorem But.below (h : But e base A B) {n : Nat} (hn : n ≤ base) (hA : n ≤ A.heap.size) : Below n A B :=
  ⟨h.os, h.tape, h.output, h.size, fun k hk => by
    have hk' : k < A.heap.size := by omega
    rw [Array.getElem?_eq_getElem hk']
    exact h.same k _ (Array.getElem?_eq_getElem hk') (.inl (by omega))⟩
theorem But.kids {x : Item} {lb lo ob oo : Nat} (h : But e base A B) (hk : KidsAt A x e lb lo ob oo) : KidsAt B x e lb lo ob oo := by
  obtain ⟨t, cs, hne, hw⟩ := hk.whole
  have he : B.heap[x.b]? = A.heap[x.b]? := (h.whole hw hne).trans (show A.heap[x.b]? = _ from hw).symm
  obtain ⟨A1, c1, h1, h1'⟩ := hk.lst
  obtain ⟨A2, c2, h2, h2'⟩ := hk.obj
  exact ⟨⟨t, cs, hne, h.whole hw hne⟩, ⟨A1, c1, (World.cell?_of_block (a := ⟨x.b, x.off + 3, none⟩) he).trans h1, h1'⟩, ⟨A2, c2, (World.cell?_of_block (a := ⟨x.b, x.off + 4, none⟩) he).trans h2, h2'⟩⟩
end
/-- The iterator's own blocks. -/
def Owned (e : TypeId) (own : List (Nat × Array Value)) (W : World) : Prop := ∀ p ∈ own, Whole W p.1 e p.2
/-- A row of the call's own that is not empty: where it lies. -/
theorem own_at {W : World} {base : Nat} {e : TypeId} {size n : Nat} {v : Value} {xs : List Value} (h : W.ownsRow base e size v n xs) (hn : 1 ≤ n) :
    ∃ t c cur, v = .slice (some ⟨t, 0, none⟩) n c ∧ n ≤ c ∧ c ≤ maxLen ∧ base ≤ t ∧ Whole W t e cur ∧ (∀ (j : Nat) (u : Value), xs[j]? = some u → W.cell? ⟨t, j, none⟩ = some u) := by
  rcases h.2 with ⟨rfl, h0⟩ | ⟨g, cap, cur, rfl, hb, hg, h1, h2, h3, h4⟩
  · omega
  · refine ⟨g, cap, cur, rfl, h1, h2, hb, hg, fun j u hj => ?_⟩
    have := h.cells (g := g) rfl j u hj
    by_cases e : j = 0 <;> simpa [Addr.add, e] using this
/-- Its front. -/
theorem own_front {W : World} {base : Nat} {e : TypeId} {size n c : Nat} {A : Option Addr} {xs : List Value} (h : W.ownsRow base e size (.slice A n c) n xs) (n' : Nat) (hn : n' ≤ n) (h1 : 1 ≤ n) : W.ownsRow base e size (.slice A n' c) n' (xs.take (n' * size)) := by
  rcases h.2 with ⟨hv, h0⟩ | ⟨g, cap, cur, hv, hb, hg, h1, h2, h3, h4⟩
  · omega
  · cases hv
    refine ⟨by rw [List.length_take, h.1]; exact Nat.min_eq_left (Nat.mul_le_mul_right _ hn), .inr ⟨g, c, cur, rfl, hb, hg, by omega, h2, h3, ?_⟩⟩
    rw [← h4, List.take_take, Nat.min_eq_left (Nat.mul_le_mul_right _ hn)]

/-- Two values at the same place of two others. -/
abbrev Pair := Item × Item
def pcells (x : Pair) : List Value := [.pointer (some ⟨x.1.b, x.1.off, none⟩), .pointer (some ⟨x.2.b, x.2.off, none⟩)]
def pcellsOf : List Pair → List Value
  | [] => []
  | x :: r => pcells x ++ pcellsOf r
theorem pcellsOf_append (a b : List Pair) : pcellsOf (a ++ b) = pcellsOf a ++ pcellsOf b := by
  induction a with
  | nil => rfl
  | cons x r ih => simp [pcellsOf, ih]
theorem pcellsOf_length (a : List Pair) : (pcellsOf a).length = a.length * 2 := by
  induction a with
  | nil => rfl
  | cons x r ih => simp [pcellsOf, pcells, ih]; omega
def psum : List Pair → Nat
  | [] => 0
  | x :: r => x.1.g.size + psum r
theorem psum_append (a b : List Pair) : psum (a ++ b) = psum a + psum b := by
  induction a with
  | nil => simp [psum]
  | cons x r ih => simp [psum, ih]; omega
theorem psum_zip : ∀ (a b : List Item), psum (a.zip b) ≤ isum a
  | [], _ => by simp [psum]
  | _ :: _, [] => by simp [psum]
  | x :: r, y :: q => by have := psum_zip r q; simp [psum, isum]; omega
theorem len_psum (S : List Pair) : S.length ≤ psum S := by
  induction S with
  | nil => simp
  | cons x r ih => have := size_pos x.1.g; simp [psum]; omega
/-- What is at the same places of both. -/
def kids2 (x : Pair) (lb lo ob oo lb' lo' ob' oo' : Nat) : List Pair :=
  (itemsAt 0 lb 5 lo x.1.g.items).zip (itemsAt 0 lb' 5 lo' x.2.g.items) ++ (itemsAt 0 ob 6 (oo + 1) x.1.g.vals).zip (itemsAt 0 ob' 6 (oo' + 1) x.2.g.vals)
theorem psum_kids2 (x : Pair) (lb lo ob oo lb' lo' ob' oo' : Nat) : psum (kids2 x lb lo ob oo lb' lo' ob' oo') + 1 ≤ x.1.g.size := by
  unfold kids2
  rw [psum_append]
  have h1 := psum_zip (itemsAt 0 lb 5 lo x.1.g.items) (itemsAt 0 lb' 5 lo' x.2.g.items)
  have h2 := psum_zip (itemsAt 0 ob 6 (oo + 1) x.1.g.vals) (itemsAt 0 ob' 6 (oo' + 1) x.2.g.vals)
  rw [isum_items] at h1 h2
  have h3 := size_eq x.1.g
  omega
theorem itemsAt_get {d b step : Nat} : ∀ {off : Nat} {l : List GV} {k : Nat} (h : k < l.length), (itemsAt d b step off l)[k]? = some ⟨d, b, off + k * step, l[k]⟩
  | off, g :: r, 0, _ => by simp [itemsAt]
  | off, g :: r, k + 1, h => by
    simp only [itemsAt, List.getElem?_cons_succ, List.getElem_cons_succ]
    rw [itemsAt_get (l := r) (by simpa using h)]
    simp only [Nat.succ_mul, Nat.add_assoc, Nat.add_comm step]
theorem zip_take {b step b' step' : Nat} {off off' : Nat} {l l' : List GV} {k : Nat} (h : k < l.length) (h' : k < l'.length) :
    ((itemsAt 0 b step off l).zip (itemsAt 0 b' step' off' l')).take (k + 1) = ((itemsAt 0 b step off l).zip (itemsAt 0 b' step' off' l')).take k ++ [(⟨0, b, off + k * step, l[k]⟩, ⟨0, b', off' + k * step', l'[k]⟩)] := by
  have e : ((itemsAt 0 b step off l).zip (itemsAt 0 b' step' off' l'))[k]? = some (⟨0, b, off + k * step, l[k]⟩, ⟨0, b', off' + k * step', l'[k]⟩) := by
    rw [List.getElem?_zip_eq_some]
    exact ⟨itemsAt_get h, itemsAt_get h'⟩
  rw [List.take_add_one, e]
  rfl
end Go.Proofs.YtoinlehkmgmlbaaDoor
