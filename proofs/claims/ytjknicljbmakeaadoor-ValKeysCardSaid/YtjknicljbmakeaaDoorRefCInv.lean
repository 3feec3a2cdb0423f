/- What holds between the rounds of the document's own Copy, and how a round carries it on; nothing is walked here. -/
import Derived.Test.YtjknicljbmakeaaDoorRows2
import Derived.WalkKit
import Derived.Lib.Hide
namespace Go.Proofs.YtjknicljbmakeaaDoor
open Go Go.RowKit

def Away (B : Nat) (vL vO : Value) (k : Nat) : Prop := B ≤ k ∧ vL.ownBlock ≠ some k ∧ vO.ownBlock ≠ some k

/-- The two rows that the call makes: so much of the values l, so much of the fields ks, ov. -/
structure Rows (B : Nat) (W0 : World) (l : List GV) (ks : List ByteArray) (ov : List GV) (n m : Nat) (vL vO : Value) (xs ys : List Value) (wr : World) : Prop where
  below : Below B W0 wr
  size : B ≤ wr.heap.size
  ownL : wr.ownsRow B 28 5 vL n xs
  ownO : wr.ownsRow B 36 6 vO m ys
  rowL : RowL (Away B vL vO) wr (l.take n) xs
  rowO : RowO (Away B vL vO) wr (ks.take m) (ov.take m) ys

section
variable {B : Nat} {W0 wr : World} {l : List GV} {ks : List ByteArray} {ov : List GV} {n m : Nat} {vL vO : Value} {xs ys : List Value}
theorem Rows.start (W0 : World) (l : List GV) (ks : List ByteArray) (ov : List GV) : Rows W0.heap.size W0 l ks ov 0 0 (.slice none 0 0) (.slice none 0 0) [] [] W0 :=
  ⟨Below.refl _ _, Nat.le_refl _, World.ownsRow_nil _ _ _ _, World.ownsRow_nil _ _ _ _, by simp [RowL], by simp [RowO]⟩
theorem Rows.step (h : Rows B W0 l ks ov n m vL vO xs ys wr) {W : World} (hb : Below wr.heap.size wr W) : Rows B W0 l ks ov n m vL vO xs ys W :=
  ⟨h.below.trans (hb.mono h.size), Nat.le_trans h.size hb.size, own_below h.ownL hb, own_below h.ownO hb, h.rowL.keep (.of_below hb) (fun _ h _ => h), h.rowO.keep (.of_below hb) (fun _ h _ => h)⟩
theorem Rows.away {W : World} (h : Rows B W0 l ks ov n m vL vO xs ys W) {k : Nat} (hk : W.heap.size ≤ k) : Away B vL vO k :=
  ⟨Nat.le_trans h.size hk, fun e => by have := (h.ownL.lt k e).2; omega, fun e => by have := (h.ownO.lt k e).2; omega⟩
theorem away_ne {W : World} {v v' : Value} (hat : v'.ownBlock = v.ownBlock ∨ v'.ownBlock = some W.heap.size) {k : Nat} (h1 : v.ownBlock ≠ some k) (h2 : k < W.heap.size) : v'.ownBlock ≠ some k := by
  rcases hat with e | e
  · rwa [e]
  · rw [e]; intro h; cases h; omega

/-- A value more. -/
theorem Rows.addL (h : Rows B W0 l ks ov n m vL vO xs ys wr) {W1 W3 : World} {v' : Value} {g : GV} {L O : Value} {o : Obj} (hg : l[n]? = some g) (hb1 : Below wr.heap.size wr W1)
    (hL : LstV (fun k => wr.heap.size ≤ k) W1 L g.items) (hO : ObjV (fun k => wr.heap.size ≤ k) W1 O g.keys g.vals)
    (hown : W3.ownsRow B 28 5 v' (n + 1) (xs ++ chunk g L O)) (hgrow : (W1.alloc o).grownBy W3 vL.ownBlock) (hat : v'.ownBlock = vL.ownBlock ∨ v'.ownBlock = some (W1.alloc o).heap.size) :
    Rows B W0 l ks ov (n + 1) m v' vO (xs ++ chunk g L O) ys W3 := by
  have h2 := (h.step hb1).step ((Below.refl _ W1).alloc (Nat.le_refl _) o)
  have hF : From (Away B vL vO) (W1.alloc o) W3 := fun k hk hlt => hgrow.block k hlt (fun e => hk.2.1 e.symm)
  have hsub : ∀ k, Away B vL vO k → k < (W1.alloc o).heap.size → Away B v' vO k := fun k hk hlt => ⟨hk.1, away_ne hat hk.2.1 hlt, hk.2.2⟩
  have hal : From (fun k => wr.heap.size ≤ k) W1 (W1.alloc o) := fun k _ hk => Below.heap_alloc _ _ _ hk
  have htk : l.take (n + 1) = l.take n ++ [g] := by rw [List.take_add_one, hg]; rfl
  refine ⟨h2.below.grown hgrow h2.size (fun k hk => (h2.ownL.lt k hk).1), Nat.le_trans h2.size hgrow.size, hown, h2.ownO.kept hgrow (own_apart h2.ownO h2.ownL (by decide)), ?_, h2.rowO.keep hF hsub⟩
  rw [htk]
  exact (RowL.snoc (hL.keep hal fun k hk _ => h.away hk) (hO.keep hal fun k hk _ => h.away hk) h2.rowL).keep hF hsub
/-- A field more. -/
theorem Rows.addO (h : Rows B W0 l ks ov n m vL vO xs ys wr) {W1 W3 : World} {v' : Value} {g : GV} {kk : ByteArray} {L O : Value} {o : Obj} (hg : ov[m]? = some g) (hkk : ks[m]? = some kk) (hb1 : Below wr.heap.size wr W1)
    (hL : LstV (fun k => wr.heap.size ≤ k) W1 L g.items) (hO : ObjV (fun k => wr.heap.size ≤ k) W1 O g.keys g.vals)
    (hown : W3.ownsRow B 36 6 v' (m + 1) (ys ++ (.string kk :: chunk g L O))) (hgrow : (W1.alloc o).grownBy W3 vO.ownBlock) (hat : v'.ownBlock = vO.ownBlock ∨ v'.ownBlock = some (W1.alloc o).heap.size) :
    Rows B W0 l ks ov n (m + 1) vL v' xs (ys ++ (.string kk :: chunk g L O)) W3 := by
  have h2 := (h.step hb1).step ((Below.refl _ W1).alloc (Nat.le_refl _) o)
  have hF : From (Away B vL vO) (W1.alloc o) W3 := fun k hk hlt => hgrow.block k hlt (fun e => hk.2.2 e.symm)
  have hsub : ∀ k, Away B vL vO k → k < (W1.alloc o).heap.size → Away B vL v' k := fun k hk hlt => ⟨hk.1, hk.2.1, away_ne hat hk.2.2 hlt⟩
  have hal : From (fun k => wr.heap.size ≤ k) W1 (W1.alloc o) := fun k _ hk => Below.heap_alloc _ _ _ hk
  have htk : ov.take (m + 1) = ov.take m ++ [g] := by rw [List.take_add_one, hg]; rfl
  have htk' : ks.take (m + 1) = ks.take m ++ [kk] := by rw [List.take_add_one, hkk]; rfl
  refine ⟨h2.below.grown hgrow h2.size (fun k hk => (h2.ownO.lt k hk).1), Nat.le_trans h2.size hgrow.size, h2.ownL.kept hgrow (own_apart h2.ownL h2.ownO (by decide)), hown, h2.rowL.keep hF hsub, ?_⟩
  rw [htk, htk']
  exact (RowO.snoc (hL.keep hal fun k hk _ => h.away hk) (hO.keep hal fun k hk _ => h.away hk) h2.rowO).keep hF hsub
/-- Both rows whole: the two slices of the copy. -/
theorem Rows.done (h : Rows B W0 l ks ov l.length ov.length vL vO xs ys wr) (hkl : ks.length = ov.length) {W : World} (hW : ∀ k, B ≤ k → k < wr.heap.size → W.heap[k]? = wr.heap[k]?) {lo : Nat} (hlo : lo ≤ B) :
    LstV (fun k => lo ≤ k) W vL l ∧ ObjV (fun k => lo ≤ k) W vO ks ov := by
  have hF : From (fun k => B ≤ k) wr W := fun k hk hlt => hW k hk hlt
  have e1 := h.rowL
  have e2 := h.rowO
  rw [List.take_length] at e1
  rw [List.take_length, ← hkl, List.take_length] at e2
  have o2 := h.ownO
  exact ⟨LstV.keep (ok := fun k => B ≤ k) hF (fun k hk _ => Nat.le_trans hlo hk) (LstV.of_own h.ownL (e1.keep (From.refl _ _) fun k hk _ => hk.1) fun k hk => (h.ownL.lt k hk).1),
    ObjV.keep (ok := fun k => B ≤ k) hF (fun k hk _ => Nat.le_trans hlo hk) (ObjV.of_own h.ownO (e2.keep (From.refl _ _) fun k hk _ => hk.1) fun k hk => (h.ownO.lt k hk).1)⟩
end
end Go.Proofs.YtjknicljbmakeaaDoor
