/- One round of Copy's walk, its calls behind it. Nothing is walked here. -/
import Derived.Test.YtlgggalbngpelaaCopyInv
namespace Go.Proofs.Ytlgggalbngpelaa
open Go Go.RowKit

theorem freshL_form {ok : Nat → Prop} {l : List GV} {W W' : World} {e : Ending} (h : FreshL ok l W e W') : ∃ A c, e = .returned (.slice A l.length c) ∧ Below W.heap.size W W' ∧
    ((l = [] ∧ A = none ∧ c = 0) ∨ (A = some ⟨W.heap.size, 0, none⟩ ∧ c = l.length ∧ ∃ xs, RowL ok W l xs ∧ Whole W' W.heap.size 27 xs.toArray)) := by
  rcases h with ⟨rfl, he, rfl⟩ | ⟨he, hb, xs, hr, hw⟩
  · exact ⟨none, 0, he, Below.refl _ _, .inl ⟨rfl, rfl, rfl⟩⟩
  · exact ⟨_, _, he, hb, .inr ⟨rfl, rfl, xs, hr, hw⟩⟩
theorem freshO_form {ok : Nat → Prop} {ks : List ByteArray} {l : List GV} {W W' : World} {e : Ending} (h : FreshO ok ks l W e W') : ∃ A c, e = .returned (.slice A l.length c) ∧ Below W.heap.size W W' ∧
    ((l = [] ∧ A = none ∧ c = 0) ∨ (A = some ⟨W.heap.size, 0, none⟩ ∧ c = l.length ∧ ∃ xs, RowO ok W ks l xs ∧ Whole W' W.heap.size 79 xs.toArray)) := by
  rcases h with ⟨rfl, he, rfl⟩ | ⟨he, hb, xs, hr, hw⟩
  · exact ⟨none, 0, he, Below.refl _ _, .inl ⟨rfl, rfl, rfl⟩⟩
  · exact ⟨_, _, he, hb, .inr ⟨rfl, rfl, xs, hr, hw⟩⟩

theorem size_set (W : World) (a : Addr) (v : Value) : (W.setCell a v).heap.size = W.heap.size := by simp [World.setCell]
theorem set_other {W : World} {b i j : Nat} {v u : Value} (h : W.cell? ⟨b, j, none⟩ = some v) (hne : i ≠ j) : (W.setCell ⟨b, i, none⟩ u).cell? ⟨b, j, none⟩ = some v :=
  (World.cell?_setCell_other W ⟨b, i, none⟩ ⟨b, j, none⟩ u (fun e => hne (by cases e; rfl))).trans h
theorem frozen_set {W : World} {a p : Addr} {u : Value} : (W.setCell a u).frozen? p = W.frozen? p := World.frozen?_setCell _ _ _ _
/-- To store what is there turns nothing. -/
theorem below_same {B b j : Nat} {w W : World} {t : TypeId} {cs : Array Value} {v : Value} (h : Below B w W) (hw : Whole W b t cs) (hv : cs[j]? = some v) : Below B w (W.setCell ⟨b, j, none⟩ v) := by
  refine h.trans ⟨rfl, rfl, rfl, by rw [size_set]; exact Nat.le_refl _, fun k _ => ?_⟩
  by_cases e : k = b
  · subst e
    have h1 := hw.put j v
    have h2 : cs.setIfInBounds j v = cs := by
      apply Array.ext_getElem?
      intro i
      rw [Array.getElem?_setIfInBounds]
      split
      · rename_i he; subst he; rw [hv]; simp [(Array.getElem?_eq_some_iff.1 hv).1]
      · rfl
    rw [h2] at h1
    exact (show _ = _ from h1).trans (show W.heap[k]? = _ from hw).symm
  · exact Below.heap_setCell _ _ _ _ e

/-- What is known of the lists behind the calls of a round. -/
structure Round (n0 : Nat) (w : World) (g : GV) (rest : List Item) (x : Item) (W Wa Wb Wc Wd : World) (A1 A2 : Option Addr) (c1 c2 : Nat) : Prop where
  inv : CopyJ n0 w g (rest ++ [x]) W
  keys : x.g.keys.length = x.g.vals.length
  ba : Below W.heap.size W Wa
  bb : Below Wa.heap.size (Wa.setCell ⟨x.b, x.off + 2, none⟩ (.string x.g.str)) Wb
  bc : Below Wb.heap.size (Wb.setCell ⟨x.b, x.off + 3, none⟩ (.slice A1 x.g.items.length c1)) Wc
  bd : Below Wc.heap.size (Wc.setCell ⟨x.b, x.off + 4, none⟩ (.slice A2 x.g.vals.length c2)) Wd
  newL : (x.g.items = [] ∧ A1 = none ∧ c1 = 0) ∨ (A1 = some ⟨Wa.heap.size, 0, none⟩ ∧ c1 = x.g.items.length ∧ ∃ xs, RowL (fun k => k < n0) (Wa.setCell ⟨x.b, x.off + 2, none⟩ (.string x.g.str)) x.g.items xs ∧ Whole Wb Wa.heap.size 27 xs.toArray)
  newO : (x.g.vals = [] ∧ A2 = none ∧ c2 = 0) ∨ (A2 = some ⟨Wb.heap.size, 0, none⟩ ∧ c2 = x.g.vals.length ∧ ∃ xs, RowO (fun k => k < n0) (Wb.setCell ⟨x.b, x.off + 3, none⟩ (.slice A1 x.g.items.length c1)) x.g.keys x.g.vals xs ∧ Whole Wc Wb.heap.size 79 xs.toArray)

theorem Round.done {n0 D : Nat} {w : World} {g : GV} {rest : List Item} {x : Item} {W Wa Wb Wc Wd : World} {A1 A2 : Option Addr} {c1 c2 : Nat} {own : List (Nat × Array Value)} (h : Round n0 w g rest x W Wa Wb Wc Wd A1 A2 c1 c2) (ho : Owned 84 own W) :
    KeepsFrom D W Wd ∧ Due.Post (CopyJ n0 w g) (x, rest, own) Wd := by
  have hpx := h.inv.pend x (by simp)
  obtain ⟨e, cs, he, hcs⟩ := hpx.whole
  have hxlt := hcs.lt
  have s1 := h.ba.size
  have s2 := h.bb.size
  have s3 := h.bc.size
  have s4 := h.bd.size
  rw [size_set] at s2 s3 s4
  have hsz := h.inv.size
  -- one block, through all of it
  have hblk : ∀ k, k < W.heap.size → k ≠ x.b → Wd.heap[k]? = W.heap[k]? := fun k hk hne => by
    rw [h.bd.block k (by omega), Below.heap_setCell _ _ _ _ hne, h.bc.block k (by omega), Below.heap_setCell _ _ _ _ hne, h.bb.block k (by omega), Below.heap_setCell _ _ _ _ hne, h.ba.block k hk]
  have hwx : Whole Wd x.b e (((cs.setIfInBounds (x.off + 2) (.string x.g.str)).setIfInBounds (x.off + 3) (.slice A1 x.g.items.length c1)).setIfInBounds (x.off + 4) (.slice A2 x.g.vals.length c2)) :=
    ((((((hcs.below h.ba hxlt).put (x.off + 2) (.string x.g.str)).below h.bb (by omega)).put (x.off + 3) (.slice A1 x.g.items.length c1)).below h.bc (by omega)).put (x.off + 4) (.slice A2 x.g.vals.length c2)).below h.bd (by omega)
  have hbig := hpx.big
  have bA : Below n0 w (Wa.setCell ⟨x.b, x.off + 2, none⟩ (.string x.g.str)) := (h.inv.below.trans (h.ba.mono (by omega))).setCell hbig.1 _
  have bB : Below n0 w (Wb.setCell ⟨x.b, x.off + 3, none⟩ (.slice A1 x.g.items.length c1)) := (bA.trans (h.bb.mono (by omega))).setCell hbig.1 _
  have hnL : NewL n0 w Wd Wa.heap.size x.g.items A1 c1 := by
    rcases h.newL with h0 | ⟨hA, hc, xs, hr, hw⟩
    · exact .inl h0
    · exact .inr ⟨hA, hc, xs, hr.keep (fun k hk _ => (bA.block k hk).symm) (fun _ hk _ => hk), (((hw.far (p := ⟨x.b, x.off + 3, none⟩) (by simp only; omega) _).below h.bc (by have := hw.lt; omega)).far (p := ⟨x.b, x.off + 4, none⟩) (by simp only; omega) _).below h.bd (by have := hw.lt; omega)⟩
  have hnO : NewO n0 w Wd Wb.heap.size x.g.keys x.g.vals A2 c2 := by
    rcases h.newO with h0 | ⟨hA, hc, xs, hr, hw⟩
    · exact .inl h0
    · exact .inr ⟨hA, hc, xs, hr.keep (fun k hk _ => (bB.block k hk).symm) (fun _ hk _ => hk), (hw.far (p := ⟨x.b, x.off + 4, none⟩) (by simp only; omega) _).below h.bd (by have := hw.lt; omega)⟩
  have hos : Wd.os = W.os ∧ Wd.tape = W.tape ∧ Wd.output = W.output :=
    ⟨h.bd.os.trans (h.bc.os.trans (h.bb.os.trans h.ba.os)), h.bd.tape.trans (h.bc.tape.trans (h.bb.tape.trans h.ba.tape)), h.bd.output.trans (h.bc.output.trans (h.bb.output.trans h.ba.output))⟩
  -- the second row lies behind the first
  have hlt12 : A1 = some ⟨Wa.heap.size, 0, none⟩ → Wa.heap.size < Wb.heap.size := fun hA => by
    rcases h.newL with ⟨_, h0, _⟩ | ⟨_, _, xs, _, hw⟩
    · rw [h0] at hA; cases hA
    · exact hw.lt
  have hkeep : KeepsFrom D W Wd := by
    refine (keeps_below h.ba).trans (((KeepsOthers.setCell _ _ _).from _).trans ((keeps_below (by rw [size_set]; exact h.bb)).trans (((KeepsOthers.setCell _ _ _).from _).trans ((keeps_below (by rw [size_set]; exact h.bc)).trans (((KeepsOthers.setCell _ _ _).from _).trans (keeps_below (by rw [size_set]; exact h.bd)))))))
  have howned : Owned 84 own Wd := fun p hp => by
    have hp' := ho p hp
    exact hp'.of_eq (hblk p.1 hp'.lt (hp'.ne hcs (fun e' => he.spot e'.symm)))
  obtain ⟨hk, hj⟩ := copy_next h.inv he hcs (by omega) hblk hos hwx s1 (by omega) (fun h1 _ => by
    rcases h.newL with ⟨h0, _⟩ | ⟨hA, _⟩
    · exact absurd h0 h1
    · have := hlt12 hA; omega) hnL hnO h.keys
  exact ⟨hkeep, howned, _, _, _, _, hk, hj⟩
end Go.Proofs.Ytlgggalbngpelaa
