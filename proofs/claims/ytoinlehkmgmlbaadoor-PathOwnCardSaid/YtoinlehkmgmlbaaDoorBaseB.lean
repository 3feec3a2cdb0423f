/- Texts in one: Read, Deep, Weight, Self, Itself, Sound, Pairs, Same, RefW. -/
import Derived.Test.YtoinlehkmgmlbaaDoorAll
import Derived.Sort.CutIn
import Derived.Test.YtoinlehkmgmlbaaDoorBaseA
import Derived.Test.YtoinlehkmgmlbaaDoorLays
import Derived.WalkKit
import Derived.WalkSpells
import Derived.WalkLawsBesides
import Derived.Deep.QuietTactic
import Derived.BigQuiet
import Derived.Lib.Hide
import Derived.IntWalk
import Derived.Deep.RegionLaw
import Derived.BigRegion
import Derived.Shelf.Abstract
import Derived.Shelf.RegionOpen
import Derived.OwnWalkIn
import Derived.TacticsInMore
import Derived.LoopNIn
import Derived.LoopIn
import Derived.Sort.LoopGhostIn
import Derived.StillTailTactics
import Derived.Lib.QuietBelow
/- A walk over all that is in a value whose body reads: what lies ahead lies where it lay when the walk began. -/
namespace Go.Proofs.YtoinlehkmgmlbaaDoor
open Go Go.RowKit Go.Shelf
attribute [local go_sem] Oper.semAt_some

theorem Whole.apart {W : World} {b l : Nat} {t : TypeId} {cs : Array Value} {o : Obj} (h : Whole W b t cs) (hl : W.heap[l]? = some o) (ho : o.isCells = false) (o' : Obj) : Whole (W.putObj l o') b t cs := by
  refine h.of_eq (World.putObj_heap_other ?_)
  rintro rfl
  rw [show W.heap[b]? = _ from h] at hl
  cases hl
  cases ho
theorem below_apart {n0 l : Nat} {w0 W : World} (h : Below n0 w0 W) (hl : n0 ≤ l) {o : Obj} (hk : W.heap[l]? = some o) (o' : Obj) : Below n0 w0 (W.putObj l o') :=
  h.trans ((Below.refl n0 W).grown (grownBy_putObj' W l o') (by have := (Array.getElem?_eq_some_iff.1 hk).1; omega) (fun k e => by cases e; omega))
theorem KidsAt.apart {W : World} {x : Item} {e : TypeId} {lb lo ob oo l : Nat} {o : Obj} (h : KidsAt W x e lb lo ob oo) (hl : W.heap[l]? = some o) (ho : o.isCells = false) (o' : Obj) : KidsAt (W.putObj l o') x e lb lo ob oo := by
  obtain ⟨t, cs, hne, hw⟩ := h.whole
  have hw' := hw.apart hl ho o'
  have he : (W.putObj l o').heap[x.b]? = W.heap[x.b]? := (show _ = _ from hw').trans (show W.heap[x.b]? = _ from hw).symm
  obtain ⟨A1, c1, h1, h1'⟩ := h.lst
  obtain ⟨A2, c2, h2, h2'⟩ := h.obj
  exact ⟨⟨t, cs, hne, hw'⟩, ⟨A1, c1, (World.cell?_of_block (a := ⟨x.b, x.off + 3, none⟩) he).trans h1, h1'⟩, ⟨A2, c2, (World.cell?_of_block (a := ⟨x.b, x.off + 4, none⟩) he).trans h2, h2'⟩⟩
theorem Owned.apart {W : World} {e : TypeId} {own : List (Nat × Array Value)} {l : Nat} {o : Obj} (h : Owned e own W) (hl : W.heap[l]? = some o) (ho : o.isCells = false) (o' : Obj) : Owned e own (W.putObj l o') := fun p hp => (h p hp).apart hl ho o'
theorem pre_apart {B : Nat} {J : List Item → World → Prop} (hJ : ∀ S, Apart B (J S)) (x : Due) : Apart B (Due.Pre J x) :=
  fun W l o o' hB hl ho ho' h => ⟨hJ _ W l o o' hB hl ho ho' h.1, h.2.apart hl ho o'⟩
theorem post_apart {B : Nat} {J : List Item → World → Prop} (hJ : ∀ S, Apart B (J S)) (x : Due) : Apart B (Due.Post J x) := by
  rintro W l o o' hB hl ho ho' ⟨h, lb, lo, ob, oo, hk, hj⟩
  exact ⟨h.apart hl ho o', lb, lo, ob, oo, hk.apart hl ho o', hJ _ W l o o' hB hl ho ho' hj⟩

section
variable {n0 : Nat} {w0 : World} {bm : Nat} {tm : TypeId} {C : List Item → Value → Prop}
end

theorem Whole.ne {W : World} {b b' : Nat} {t t' : TypeId} {cs cs' : Array Value} (h : Whole W b t cs) (h' : Whole W b' t' cs') (hne : t ≠ t') : b ≠ b' := by
  rintro rfl
  have h2 : some (Obj.cells cs t (0, 0)) = some (Obj.cells cs' t' (0, 0)) := (show W.heap[b]? = _ from h).symm.trans h'
  simp at h2
  exact hne h2.2
theorem Owned.far {W : World} {own : List (Nat × Array Value)} {e t : TypeId} {bm : Nat} {cs : Array Value} (h : Owned e own W) (hw : Whole W bm t cs) (hne : t ≠ e) (j : Nat) (u : Value) : Owned e own (W.setCell ⟨bm, j, none⟩ u) :=
  fun p hp => (h p hp).far ((h p hp).ne hw (fun e' => hne e'.symm)) u
theorem Owned.alloc {W : World} {own : List (Nat × Array Value)} {e : TypeId} (h : Owned e own W) (o : Obj) : Owned e own (W.alloc o) := fun p hp => (h p hp).alloc o
theorem Owned.below {W W' : World} {own : List (Nat × Array Value)} {e : TypeId} (h : Owned e own W) (hb : Below W.heap.size W W') : Owned e own W' := fun p hp => (h p hp).below hb (h p hp).lt

theorem keeps_below {D : Nat} {W W' : World} (hb : Below W.heap.size W W') : KeepsFrom D W W' := ⟨hb.size, fun k _ _ hk _ => (hb.block k (Array.getElem?_eq_some_iff.1 hk).1).trans hk⟩

theorem call_all (p : Option Addr) (w : World) : Calls Tryd.prog 42 #[.pointer p] w fun e w' => e = .returned (.func (.func 53) #[] #[.pointer (some ⟨w.heap.size, 0, none⟩)]) ∧ w.alloc (.cells #[.pointer p] 60) = w' := by
  go_enter Tryd.func42, Tryd.ntmps42
  go_wp2
  go_ret
  exact ⟨rfl, rfl⟩

def dmaxs : List Item → Nat
  | [] => 0
  | x :: r => max (x.d + x.g.deep) (dmaxs r)
theorem dmaxs_append (a b : List Item) : dmaxs (a ++ b) = max (dmaxs a) (dmaxs b) := by
  induction a with
  | nil => simp [dmaxs]
  | cons x r ih => simp [dmaxs, ih, Nat.max_assoc]
theorem dmaxs_items {d b step : Nat} : ∀ {off : Nat} {l : List GV}, max d (dmaxs (itemsAt (d + 1) b step off l)) = d + GV.deeps l
  | _, [] => by simp [itemsAt, dmaxs, GV.deeps]
  | off, g :: r => by
    have := dmaxs_items (d := d) (b := b) (step := step) (off := off + step) (l := r)
    simp only [itemsAt, dmaxs, GV.deeps]
    omega
theorem dmaxs_kids (x : Item) (lb lo ob oo : Nat) : max x.d (dmaxs (kids x lb lo ob oo)) = x.d + x.g.deep := by
  have h1 := dmaxs_items (d := x.d) (b := lb) (step := 5) (off := lo) (l := x.g.items)
  have h2 := dmaxs_items (d := x.d) (b := ob) (step := 6) (off := oo + 1) (l := x.g.vals)
  have h3 : x.g.deep = max (GV.deeps x.g.items) (GV.deeps x.g.vals) := by cases x.g with | mk k n s l ks ov => simp only [GV.deep, GV.items, GV.vals]
  unfold kids
  rw [dmaxs_append, h3]
  omega

end Go.Proofs.YtoinlehkmgmlbaaDoor

/- Deep, the program's. -/
namespace Go.Proofs.YtoinlehkmgmlbaaDoor
open Go Go.RowKit Go.Shelf
attribute [local go_sem] Oper.semAt_some

end Go.Proofs.YtoinlehkmgmlbaaDoor

/- Weight, the program's. -/
namespace Go.Proofs.YtoinlehkmgmlbaaDoor
open Go Go.RowKit Go.Shelf
attribute [local go_sem] Oper.semAt_some


def wsum : List Item → Nat
  | [] => 0
  | x :: r => x.g.weight + wsum r
theorem wsum_append (a b : List Item) : wsum (a ++ b) = wsum a + wsum b := by
  induction a with
  | nil => simp [wsum]
  | cons x r ih => simp [wsum, ih]; omega
theorem wsum_items {d b step : Nat} : ∀ {off : Nat} {l : List GV}, wsum (itemsAt d b step off l) = GV.weights l
  | _, [] => by simp [itemsAt, wsum, GV.weights]
  | _, _ :: r => by simp [itemsAt, wsum, GV.weights, wsum_items (l := r)]
def ksum (ks : List ByteArray) : Nat := (ks.map (·.size)).sum
theorem ksum_take (ks : List ByteArray) (k : Nat) (h : k < ks.length) : ksum (ks.take (k + 1)) = ksum (ks.take k) + ks[k].size := by
  unfold ksum; rw [List.take_succ_eq_append_getElem h, List.map_append, List.sum_append]; simp
theorem ksum_le (ks : List ByteArray) (k : Nat) : ksum (ks.take k) ≤ ksum ks := by
  have : ksum (ks.take k ++ ks.drop k) = ksum (ks.take k) + ksum (ks.drop k) := by unfold ksum; rw [List.map_append, List.sum_append]
  rw [List.take_append_drop] at this
  omega
theorem weight_eq (x : Item) (lb lo ob oo : Nat) : x.g.weight = 1 + x.g.str.size + ksum x.g.keys + wsum (kids x lb lo ob oo) := by
  unfold kids
  rw [wsum_append, wsum_items, wsum_items]
  cases x.g with | mk k n s l ks ov => simp only [GV.weight, GV.str, GV.items, GV.keys, GV.vals, ksum]; omega
theorem weight_le {x : Item} : ∀ {S : List Item}, x ∈ S → x.g.weight ≤ wsum S
  | [], h => by cases h
  | y :: r, h => by
    simp only [wsum]
    rcases List.mem_cons.1 h with rfl | h
    · omega
    · have := weight_le h; omega
/-- Between the rounds of the loop over the keys. -/
def KeyRel (n0 bm D m : Nat) (w0 W : World) (own : List (Nat × Array Value)) (ks : List ByteArray) (i : Value) (wr : World) : Prop :=
  ∃ k : Nat, i = .int .i64 k ∧ k ≤ ks.length ∧ Whole wr bm 3 #[.int .i64 ((m + ksum (ks.take k) : Nat) : Int)] ∧ Below n0 w0 wr ∧ Owned 88 own wr ∧ KeepsFrom D W wr
theorem size_le_weight : ∀ (g : GV), g.size ≤ g.weight := by
  have h : (∀ g : GV, g.size ≤ g.weight) ∧ (∀ l : List GV, GV.sizes l ≤ GV.weights l) := by
    refine ⟨fun g => ?_, fun l => ?_⟩
    · exact GV.rec (motive_1 := fun g => g.size ≤ g.weight) (motive_2 := fun l => GV.sizes l ≤ GV.weights l) (fun k n s l ks ov h1 h2 => by simp only [GV.size, GV.weight]; omega) (by simp [GV.sizes]) (fun a r h1 h2 => by simp only [GV.sizes, GV.weights]; omega) g
    · exact GV.rec_1 (motive_1 := fun g => g.size ≤ g.weight) (motive_2 := fun l => GV.sizes l ≤ GV.weights l) (fun k n s l ks ov h1 h2 => by simp only [GV.size, GV.weight]; omega) (by simp [GV.sizes]) (fun a r h1 h2 => by simp only [GV.sizes, GV.weights]; omega) l
  exact h.1

end Go.Proofs.YtoinlehkmgmlbaaDoor

/- What is asked of a value apart from the values in it: soundKeys, soundItself. -/
namespace Go.Proofs.YtoinlehkmgmlbaaDoor
open Go Go.RowKit Go.Shelf

def less' (a b : ByteArray) : Bool := Op.bytesLess a.toList b.toList
def valid (s : ByteArray) : Bool := Lib.validD s.data.toList
/-- The tables that the library's check of UTF-8 reads. -/
def Tabs (w : World) : Prop := Lib.Utf8Tabs (Tryd.laysValid_ren.g 3) (Tryd.laysValid_ren.g 4) w
theorem Tabs.below {w w' : World} {B : Nat} (h : Tabs w) (hb : Below B w w') (hB : w.heap.size ≤ B) : Tabs w' := by
  have hc : ∀ (a : Addr) (v : Value), w.cell? a = some v → w'.cell? a = some v := fun a v hv => (hb.cell (by have := World.block_lt_of_cell? w a hv; omega)).trans hv
  exact ⟨fun c hcc => hc _ _ (h.1 c hcc), fun i hi => ⟨hc _ _ (h.2 i hi).1, hc _ _ (h.2 i hi).2⟩⟩
theorem call_valid (s : ByteArray) (w : World) (hs : s.size ≤ 9223372036854775807) (hT : Tabs w) :
    Calls Tryd.prog 35 #[.string s] w fun e w' => e = .returned (.bool (valid s)) ∧ Below w.heap.size w w' :=
  Any.utf8_ValidString Tryd.laysValid s w hs hT

/-- The keys up to the n-th are UTF-8 and rise. -/
def KeysTo (ks : List ByteArray) (n : Nat) : Prop := ∀ (i : Nat) (k : ByteArray), i < n → ks[i]? = some k → valid k = true ∧ (∀ (j : Nat) (p : ByteArray), i = j + 1 → ks[j]? = some p → less' p k = true)
def KeysOk (ks : List ByteArray) : Prop := KeysTo ks ks.length
theorem KeysTo.succ {ks : List ByteArray} {n : Nat} (h : KeysTo ks n) {k : ByteArray} (hk : ks[n]? = some k) (hv : valid k = true) (hl : ∀ (j : Nat) (p : ByteArray), n = j + 1 → ks[j]? = some p → less' p k = true) : KeysTo ks (n + 1) := by
  intro i k' hi hk'
  by_cases e : i = n
  · subst e; rw [hk] at hk'; cases hk'; exact ⟨hv, hl⟩
  · exact h i k' (by omega) hk'

def BoolPost (P : Prop) (w : World) (e : Ending) (w' : World) : Prop := ∃ b : Bool, e = .returned (.bool b) ∧ (b = true ↔ P) ∧ Below w.heap.size w w'
def KeysRel (w : World) (ks : List ByteArray) (i : Value) (wr : World) : Prop := ∃ k : Nat, i = .int .i64 k ∧ k ≤ ks.length ∧ KeysTo ks k ∧ Below w.heap.size w wr

end Go.Proofs.YtoinlehkmgmlbaaDoor

/- soundItself: what is asked of a value apart from the values in it. -/
namespace Go.Proofs.YtoinlehkmgmlbaaDoor
open Go Go.RowKit Go.Shelf

/-- A value is sound, apart from the values in it. -/
def SelfP (gk gn : Int) (gs : ByteArray) (gl : List GV) (gy : List ByteArray) (go : List GV) : Prop :=
  (gk = 0 ∨ gk = 1 ∨ gk = 2 ∨ gk = 3 ∨ gk = 4 ∨ gk = 5) ∧
  (gk = 2 ∨ gn = 0 ∨ gk = 1 ∧ gn = 1) ∧ (gk = 3 ∧ valid gs = true ∨ gk ≠ 3 ∧ gs.toList = []) ∧
  (gk = 4 ∨ gl = []) ∧ (gk = 5 ∧ KeysOk gy ∨ gk ≠ 5 ∧ go = [])
def SelfOk (g : GV) : Prop := SelfP g.kind g.num g.str g.items g.keys g.vals

end Go.Proofs.YtoinlehkmgmlbaaDoor

/- Sound, the program's. -/
namespace Go.Proofs.YtoinlehkmgmlbaaDoor
open Go Go.RowKit Go.Shelf
attribute [local go_sem] Oper.semAt_some


mutual
/-- A value is sound. -/
def GV.Sound : GV → Prop
  | .mk k n s l ks ov => SelfP k n s l ks ov ∧ GV.Sounds l ∧ GV.Sounds ov
def GV.Sounds : List GV → Prop
  | [] => True
  | g :: r => GV.Sound g ∧ GV.Sounds r
end
theorem sounds_items {d b step : Nat} : ∀ {off : Nat} {l : List GV}, (∀ x ∈ itemsAt d b step off l, x.g.Sound) ↔ GV.Sounds l
  | _, [] => by simp [itemsAt, GV.Sounds]
  | _, _ :: r => by simp [itemsAt, GV.Sounds, sounds_items (l := r)]
theorem sound_kids (x : Item) (lb lo ob oo : Nat) : x.g.Sound ↔ SelfOk x.g ∧ ∀ y ∈ kids x lb lo ob oo, y.g.Sound := by
  have h : (∀ y ∈ kids x lb lo ob oo, y.g.Sound) ↔ GV.Sounds x.g.items ∧ GV.Sounds x.g.vals := by
    unfold kids
    rw [← sounds_items (d := x.d + 1) (b := lb) (step := 5) (off := lo), ← sounds_items (d := x.d + 1) (b := ob) (step := 6) (off := oo + 1)]
    simp only [List.mem_append]
    exact ⟨fun h => ⟨fun y hy => h y (.inl hy), fun y hy => h y (.inr hy)⟩, fun h y hy => hy.elim (h.1 y) (h.2 y)⟩
  rw [h]
  unfold SelfOk
  cases x.g with | mk k n s l ks ov => simp only [GV.Sound, GV.kind, GV.num, GV.str, GV.items, GV.keys, GV.vals]
end Go.Proofs.YtoinlehkmgmlbaaDoor

/- The iterator over all that is at the same places of two values: it hands each pair that lies ahead to yield, then lays by what is in both. -/
namespace Go.Proofs.YtoinlehkmgmlbaaDoor
open Go Go.RowKit Go.Shelf

attribute [local go_sem] Oper.semAt_some

abbrev Due2 := Pair × List Pair × List (Nat × Array Value)
abbrev Due2.encs (x : Due2) : Array Value := #[.pointer (some ⟨x.1.1.b, x.1.1.off, none⟩), .pointer (some ⟨x.1.2.b, x.1.2.off, none⟩)]
theorem Whole.drewN' {W : World} {b : Nat} {t : TypeId} {cs : Array Value} (h : Whole W b t cs) (n : Nat) : Whole (W.drewN n) b t cs := h
theorem _root_.Go.World.ownsRow.drewN' {W : World} {base : Nat} {e : TypeId} {size n : Nat} {v : Value} {xs : List Value} (h : W.ownsRow base e size v n xs) (k : Nat) : (W.drewN k).ownsRow base e size v n xs := h
theorem But.drewN' {e : TypeId} {base : Nat} {A B : World} (h : But e base A B) (n : Nat) : But e base A (B.drewN n) := ⟨h.os, h.tape, h.output, h.size, h.same⟩

theorem zip_len {b step b' step' off off' : Nat} {l l' : List GV} : ((itemsAt 0 b step off l).zip (itemsAt 0 b' step' off' l')).length = min l.length l'.length := by
  rw [List.length_zip, itemsAt_length, itemsAt_length]
theorem mem_zip_items {b step b' step' off off' : Nat} {l l' : List GV} {x : Pair} (h : x ∈ (itemsAt 0 b step off l).zip (itemsAt 0 b' step' off' l')) : x.1.g.size ≤ GV.sizes l ∧ x.2.g.size ≤ GV.sizes l' := by
  have := List.of_mem_zip (a := x.1) (b := x.2) h
  exact ⟨(mem_items this.1).2, (mem_items this.2).2⟩

end Go.Proofs.YtoinlehkmgmlbaaDoor

/- Same, the program's. -/
namespace Go.Proofs.YtoinlehkmgmlbaaDoor
open Go Go.RowKit Go.Shelf
attribute [local go_sem] Oper.semAt_some

mutual
/-- Two values are the same. -/
def GV.Same : GV → GV → Prop
  | .mk k n s l ks ov, h => SameSelf (.mk k n s l ks ov) h ∧ GV.Sames l h.items ∧ GV.Sames ov h.vals
def GV.Sames : List GV → List GV → Prop
  | [], _ => True
  | _ :: _, [] => True
  | g :: r, h :: q => GV.Same g h ∧ GV.Sames r q
end
theorem same_eq (g h : GV) : g.Same h ↔ SameSelf g h ∧ GV.Sames g.items h.items ∧ GV.Sames g.vals h.vals := by
  cases g with | mk k n s l ks ov => simp only [GV.Same, GV.items, GV.vals]
theorem sames_zip {b step b' step' : Nat} : ∀ {off off' : Nat} {l l' : List GV}, (∀ x ∈ (itemsAt 0 b step off l).zip (itemsAt 0 b' step' off' l'), x.1.g.Same x.2.g) ↔ GV.Sames l l'
  | _, _, [], _ => by simp [itemsAt, GV.Sames]
  | _, _, _ :: _, [] => by simp [itemsAt, GV.Sames]
  | off, off', g :: r, h :: q => by
    have := sames_zip (b := b) (step := step) (b' := b') (step' := step') (off := off + step) (off' := off' + step') (l := r) (l' := q)
    simp only [itemsAt, List.zip_cons_cons, List.mem_cons, GV.Sames, ← this]
    exact ⟨fun h => ⟨h _ (.inl rfl), fun x hx => h x (.inr hx)⟩, fun h x hx => hx.elim (fun e => by rw [e]; exact h.1) (h.2 x)⟩
theorem same_kids (x : Pair) (lb lo ob oo lb' lo' ob' oo' : Nat) : x.1.g.Same x.2.g ↔ SameSelf x.1.g x.2.g ∧ ∀ y ∈ kids2 x lb lo ob oo lb' lo' ob' oo', y.1.g.Same y.2.g := by
  rw [same_eq, ← sames_zip (b := lb) (step := 5) (b' := lb') (step' := 5) (off := lo) (off' := lo'), ← sames_zip (b := ob) (step := 6) (b' := ob') (step' := 6) (off := oo + 1) (off' := oo' + 1)]
  unfold kids2
  simp only [List.mem_append]
  exact ⟨fun h => ⟨h.1, fun y hy => hy.elim (h.2.1 y) (h.2.2 y)⟩, fun h => ⟨h.1, fun y hy => h.2 y (.inl hy), fun y hy => h.2 y (.inr hy)⟩⟩

section
variable {n0 : Nat} {w0 : World} {bm : Nat} {g h : GV}
end
end Go.Proofs.YtoinlehkmgmlbaaDoor

/- The document's own Weight: what it comes to for a value, whatever it is. -/
namespace Go.Proofs.YtoinlehkmgmlbaaDoor
open Go Go.RowKit Go.Sort

theorem wrap_small (x : Int) (h0 : 0 ≤ x) (h1 : x < 9223372036854775808) : IntKind.i64.wrap x = x := by
  simp [IntKind.wrap, IntKind.bits, IntKind.signed]
  omega
theorem weights_get : ∀ (l : List GV) (k : Nat) (h : k < l.length), l[k].weight ≤ GV.weights l
  | [], _, h => by simp at h
  | x :: r, 0, _ => by simp [GV.weights]
  | x :: r, k + 1, h => by
    have := weights_get r k (by simpa using h)
    simp only [GV.weights, List.getElem_cons_succ]
    omega

/-- Between the rounds: how far, and what was come to. -/
def WtRel (W0 : World) (ks : List ByteArray) (l : List GV) (z : Nat) (n i : Value) (wr : World) : Prop := ∃ k : Nat, i = .int .i64 k ∧ k ≤ l.length ∧ n = .int .i64 (z + ksum (ks.take k) + GV.weights (l.take k) : Nat) ∧ Below W0.heap.size W0 wr

end Go.Proofs.YtoinlehkmgmlbaaDoor
