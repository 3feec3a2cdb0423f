/- json's reader: a list's items. -/
import Derived.Test.YtmmjkhkcffgeiaaDoorRdR
import Derived.Test.YtmmjkhkcffgeiaaDoorRdN
import Derived.Test.YtmmjkhkcffgeiaaDoorBaseA
import Derived.Test.YtmmjkhkcffgeiaaDoorRawInv
import Derived.WalkKit
import Derived.WalkSpells
import Derived.WalkLawsBesides
import Derived.Deep.RegionLaw
import Derived.Deep.RegionHeld3
namespace Go.Proofs.YtmmjkhkcffgeiaaDoor
open Go Go.RowKit Go.Shelf

/-- A cell of a row of one's own is stored into. -/
theorem own_put {W : World} {base : Nat} {e : TypeId} {size n g cap : Nat} {xs : List Value} (h : W.ownsRow base e size (.slice (some ⟨g, 0, none⟩) n cap) n xs) (i : Nat) (_ : i < n * size) (x : Value) :
    (W.setCell ⟨g, i, none⟩ x).ownsRow base e size (.slice (some ⟨g, 0, none⟩) n cap) n (xs.set i x) := by
  rcases h with ⟨hl, ⟨h, _⟩ | ⟨g', cap', cur, e1, hb, hg, h1, h2, h3, h4⟩⟩
  · cases h
  · cases e1
    refine ⟨by simpa using hl, .inr ⟨g, cap, cur.setIfInBounds i x, rfl, hb, Whole.put (W := W) hg i x, h1, h2, by simp [h3], ?_⟩⟩
    rw [Array.toList_setIfInBounds, List.take_set, h4]
/-- The cells of the last item of a row of one's own. -/
theorem own_last {W : World} {base : Nat} {e : TypeId} {size n cap : Nat} {A : Option Addr} {xs : List Value} (h : W.ownsRow base e size (.slice A (n + 1) cap) (n + 1) xs) : ∃ g, A = some ⟨g, 0, none⟩ ∧ base ≤ g ∧ g < W.heap.size ∧ n + 1 ≤ cap ∧ ∃ cur : Array Value, Whole W g e cur ∧ cur.size = cap * size := by
  rcases h with ⟨hl, ⟨h, hn⟩ | ⟨g', cap', cur, e1, hb, hg, h1, h2, h3, h4⟩⟩
  · omega
  · cases e1
    exact ⟨g', rfl, hb, Whole.lt (W := W) hg, h1, cur, hg, h3⟩

/-- What holds between the items of a list: V's block holds those read so far, in a row of its own. -/
structure LInv (W0 : World) (R : Nat) (l : List GV) (W : World) : Prop where
  rd : Rd R W0 W
  lt : R < W0.heap.size
  box : Whole W W0.heap.size 99 #[.pointer (some ⟨R, 0, none⟩)]
  res : ∃ cs, cs.size = 5 ∧ Whole W (W0.heap.size + 1) 31 cs
  val : ∃ (vL : Value) (xs : List Value), Whole W (W0.heap.size + 2) 31 #[.int .u8 4, .int .i64 0, .string ⟨#[]⟩, vL, .slice none 0 0] ∧
    W.ownsRow (W0.heap.size + 3) 31 5 vL l.length xs ∧ RowL (fun k => W0.heap.size + 3 ≤ k ∧ vL.ownBlock ≠ some k) W l xs
theorem own_rd {W W' : World} {R base : Nat} {e : TypeId} {size n : Nat} {v : Value} {xs : List Value} (h : W.ownsRow base e size v n xs) (hb : Rd R W W') (hR : R < base) : W'.ownsRow base e size v n xs :=
  h.kept (row := some R) ⟨hb.os, hb.tape, hb.output, hb.size, fun k hk hn => hb.far k hk (fun e => hn (by rw [e]))⟩ (.inr fun e => by have := (h.lt R e).1; omega)
theorem LInv.step {W0 W W' : World} {R : Nat} {l : List GV} (h : LInv W0 R l W) (hr : Rd R W W') : LInv W0 R l W' := by
  obtain ⟨rd, lt, box, ⟨cs, hcs, hres⟩, vL, xs, hv, hown, hrow⟩ := h
  refine ⟨rd.trans hr, lt, hr.whole box (by omega), ⟨cs, hcs, hr.whole hres (by omega)⟩, vL, xs, hr.whole hv (by omega), own_rd hown hr (by omega), hrow.keep (fun k hk hlt => hr.far k hlt (by have := hk.1; omega)) (fun k hk _ => hk)⟩
/-- An item more: the row has grown by one in W3, its cells and V's are stored into. -/
theorem LInv.more {W0 W W4 : World} {R : Nat} {l : List GV} {g : GV} {L O vL v' : Value} {xs : List Value} (h : LInv W0 R l W)
    (hv : Whole W4 (W0.heap.size + 2) 31 #[.int .u8 4, .int .i64 0, .string ⟨#[]⟩, v', .slice none 0 0])
    (hown0 : W.ownsRow (W0.heap.size + 3) 31 5 vL l.length xs) (hrow : RowL (fun k => W0.heap.size + 3 ≤ k ∧ vL.ownBlock ≠ some k) W l xs)
    (hL : LstV (fun k => W0.heap.size + 3 ≤ k ∧ vL.ownBlock ≠ some k) W L g.items) (hO : ObjV (fun k => W0.heap.size + 3 ≤ k ∧ vL.ownBlock ≠ some k) W O g.keys g.vals)
    (hown : W4.ownsRow (W0.heap.size + 3) 31 5 v' (l.length + 1) (xs ++ chunk g L O)) (hat : v'.ownBlock = vL.ownBlock ∨ v'.ownBlock = some W.heap.size)
    (hos : W4.os = W.os) (htape : W4.tape = W.tape) (hout : W4.output = W.output) (hsize : W.heap.size ≤ W4.heap.size)
    (hfar : ∀ k, k < W.heap.size → k ≠ W0.heap.size + 2 → some k ≠ vL.ownBlock → W4.heap[k]? = W.heap[k]?) : LInv W0 R (l ++ [g]) W4 := by
  have hne : ∀ k, k < W0.heap.size + 3 → some k ≠ vL.ownBlock := fun k hk e => by have := (hown0.lt k e.symm).1; omega
  have hlt := h.box.lt
  obtain ⟨cs, hcs, hres⟩ := h.res
  have hW : From (fun k => W0.heap.size + 3 ≤ k ∧ vL.ownBlock ≠ some k) W W4 := fun k hk hlt => hfar k hlt (by have := hk.1; omega) (fun e => hk.2 e.symm)
  refine ⟨⟨hos.trans h.rd.os, htape.trans h.rd.tape, hout.trans h.rd.output, Nat.le_trans h.rd.size hsize, fun k hk hn => (hfar k (Nat.lt_of_lt_of_le hk h.rd.size) (by omega) (hne k (by omega))).trans (h.rd.far k hk hn)⟩, h.lt,
    h.box.of_eq (hfar _ hlt (by omega) (hne _ (by omega))), ⟨cs, hcs, hres.of_eq (hfar _ hres.lt (by omega) (hne _ (by omega)))⟩, v', xs ++ chunk g L O, hv, by rw [List.length_append]; exact hown, (RowL.snoc hL hO hrow).keep hW ?_⟩
  exact fun k hk hlt => ⟨hk.1, at_ne hat hk.2 hlt⟩
/-- The end: the list. -/
theorem LInv.out {W0 W : World} {R : Nat} {l : List GV} (h : LInv W0 R l W) : ∃ vL : Value, Whole W (W0.heap.size + 2) 31 #[.int .u8 4, .int .i64 0, .string ⟨#[]⟩, vL, .slice none 0 0] ∧ LstV (fun k => W0.heap.size + 3 ≤ k) W vL l := by
  obtain ⟨vL, xs, hv, hown, hrow⟩ := h.val
  exact ⟨vL, hv, LstV.of_own hown (hrow.keep (From.refl _ _) (fun k h _ => h.1)) (fun k hk => (hown.lt k hk).1)⟩
theorem vat_itm {m : Nat} {b : List UInt8} {g : GV} {r : List UInt8} : VAt m b g r ↔ (ItmV m).At b g r := ⟨fun ⟨a, b, c, d⟩ => ⟨⟨a, b⟩, c, d⟩, fun ⟨⟨a, b⟩, c, d⟩ => ⟨a, b, c, d⟩⟩
theorem alloc_at {W : World} {R : Nat} {s : ByteArray} {i d : Nat} (h : At W R s i d) (o : Obj) : At (W.alloc o) R s i d := h.later ((Below.refl _ _).alloc (Nat.le_refl _) o)

/-- The cells of the item that has come. -/
theorem last_facts {W W3 : World} {base n c c3 : Nat} {AL A3 : Option Addr} {xs : List Value} (h : W.ownsRow base 31 5 (.slice AL n c) n xs)
    (h3 : W3.ownsRow base 31 5 (.slice A3 (n + 1) c3) (n + 1) (xs ++ [.int .u8 0, .int .i64 0, .string ⟨#[]⟩, .slice none 0 0, .slice none 0 0])) :
    ∃ q, A3 = some ⟨q, 0, none⟩ ∧ base ≤ q ∧ q < W3.heap.size ∧ n + 1 ≤ c3 ∧ (∀ i, W3.frozen? ⟨q, i, none⟩ = false) ∧ W3.cell? ⟨q, n * 5, none⟩ = some (.int .u8 0) ∧ W3.cell? ⟨q, n * 5 + 1, none⟩ = some (.int .i64 0) ∧ W3.cell? ⟨q, n * 5 + 2, none⟩ = some (.string ⟨#[]⟩) ∧ W3.cell? ⟨q, n * 5 + 3, none⟩ = some (.slice none 0 0) ∧ W3.cell? ⟨q, n * 5 + 4, none⟩ = some (.slice none 0 0) ∧
      W3.frozen? ⟨q, n * 5, none⟩ = false ∧ W3.frozen? ⟨q, n * 5 + 1, none⟩ = false ∧ W3.frozen? ⟨q, n * 5 + 2, none⟩ = false ∧ W3.frozen? ⟨q, n * 5 + 3, none⟩ = false ∧ W3.frozen? ⟨q, n * 5 + 4, none⟩ = false := by
  obtain ⟨q, rfl, h1, h2, h4, cur, hw, hs⟩ := own_last h3
  have hl : xs.length = n * 5 := h.1
  have hc : ∀ (j : Nat) (u : Value), (xs ++ [.int .u8 0, .int .i64 0, .string ⟨#[]⟩, .slice none 0 0, .slice none 0 0])[j]? = some u → W3.cell? ⟨q, j, none⟩ = some u := fun j u hj => by
    have := h3.cells (g := q) rfl j u hj
    by_cases e : j = 0 <;> simpa [Addr.add, e] using this
  refine ⟨q, rfl, h1, h2, h4, fun i => hw.frozen i, hc _ _ ?_, hc _ _ ?_, hc _ _ ?_, hc _ _ ?_, hc _ _ ?_, hw.frozen _, hw.frozen _, hw.frozen _, hw.frozen _, hw.frozen _⟩ <;> rw [List.getElem?_append_right (by omega)] <;> simp [hl]
/-- What the append leaves of V's block and of the reader's box. -/
theorem grown_keeps {W0 W W2 W3 : World} {R n c : Nat} {AL : Option Addr} {l : List GV} {xs : List Value} (h : LInv W0 R l W) (hv : Whole W (W0.heap.size + 2) 31 #[.int .u8 4, .int .i64 0, .string ⟨#[]⟩, .slice AL n c, .slice none 0 0])
    (hown : W.ownsRow (W0.heap.size + 3) 31 5 (.slice AL n c) n xs) (hr : Rd R W W2) (hg : W2.grownBy W3 (Value.slice AL n c).ownBlock) :
    (W3.cell? ⟨W0.heap.size, 0, none⟩ = some (.pointer (some ⟨R, 0, none⟩)) ∧ W3.cell? ⟨W0.heap.size + 2, 3, none⟩ = some (.slice AL n c) ∧ W3.frozen? ⟨W0.heap.size + 2, 3, none⟩ = false) := by
  have hne : ∀ k, k < W0.heap.size + 3 → some k ≠ (Value.slice AL n c).ownBlock := fun k hk e => by have := (hown.lt k e.symm).1; omega
  have := h.lt
  exact ⟨(((hr.whole h.box (by omega)).grown hg (hne _ (by omega))).cell 0).trans rfl, (((hr.whole hv (by omega)).grown hg (hne _ (by omega))).cell 3).trans rfl, ((hr.whole hv (by omega)).grown hg (hne _ (by omega))).frozen 3⟩
theorem whole_cells {W : World} {b : Nat} {t : TypeId} {cs : List Value} (h : Whole W b t cs.toArray) : ∀ (j : Nat) (u : Value), cs[j]? = some u → W.cell? ((⟨b, 0, none⟩ : Addr).add j) = some u := by
  intro j u hj
  have : ((⟨b, 0, none⟩ : Addr).add j) = ⟨b, j, none⟩ := by unfold Addr.add; split <;> simp_all
  rw [this, h.cell, List.getElem?_toArray, hj]
end Go.Proofs.YtmmjkhkcffgeiaaDoor
