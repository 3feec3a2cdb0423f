/- json's reader: one field of an object; what holds between them. -/
import Derived.Test.YtmmjkhkcffgeiaaDoorRdP
import Derived.Test.YtmmjkhkcffgeiaaDoorTill
namespace Go.Proofs.YtmmjkhkcffgeiaaDoor
open Go Go.RowKit Go.Shelf

/-- What holds between the fields of an object: V's block holds those read so far, in a row of its own. -/
structure OInv (W0 : World) (R : Nat) (l : List (ByteArray × GV)) (W : World) : Prop where
  rd : Rd R W0 W
  lt : R < W0.heap.size
  box : Whole W W0.heap.size 99 #[.pointer (some ⟨R, 0, none⟩)]
  res : ∃ cs, cs.size = 5 ∧ Whole W (W0.heap.size + 1) 31 cs
  val : ∃ (vO : Value) (xs : List Value), Whole W (W0.heap.size + 2) 31 #[.int .u8 5, .int .i64 0, .string ⟨#[]⟩, .slice none 0 0, vO] ∧
    W.ownsRow (W0.heap.size + 3) 45 6 vO l.length xs ∧ RowO (fun k => W0.heap.size + 3 ≤ k ∧ vO.ownBlock ≠ some k) W (l.map (·.1)) (l.map (·.2)) xs
theorem OInv.step {W0 W W' : World} {R : Nat} {l : List (ByteArray × GV)} (h : OInv W0 R l W) (hr : Rd R W W') : OInv W0 R l W' := by
  obtain ⟨rd, lt, box, ⟨cs, hcs, hres⟩, vO, xs, hv, hown, hrow⟩ := h
  refine ⟨rd.trans hr, lt, hr.whole box (by omega), ⟨cs, hcs, hr.whole hres (by omega)⟩, vO, xs, hr.whole hv (by omega), own_rd hown hr (by omega), hrow.keep (fun k hk hlt => hr.far k hlt (by have := hk.1; omega)) (fun k hk _ => hk)⟩
/-- The end: the object. -/
theorem OInv.out {W0 W : World} {R : Nat} {l : List (ByteArray × GV)} (h : OInv W0 R l W) : ∃ vO : Value, Whole W (W0.heap.size + 2) 31 #[.int .u8 5, .int .i64 0, .string ⟨#[]⟩, .slice none 0 0, vO] ∧ ObjV (fun k => W0.heap.size + 3 ≤ k) W vO (l.map (·.1)) (l.map (·.2)) := by
  obtain ⟨vO, xs, hv, hown, hrow⟩ := h.val
  have hown' : W.ownsRow (W0.heap.size + 3) 45 6 vO (l.map (·.2)).length xs := by rw [List.length_map]; exact hown
  exact ⟨vO, hv, ObjV.of_own hown' (hrow.keep (From.refl _ _) (fun k h _ => h.1)) (fun k hk => (hown.lt k hk).1)⟩
/-- The cells of the field that has come. -/
theorem last_factsO {W W3 : World} {base n c c3 : Nat} {AL A3 : Option Addr} {xs : List Value} (h : W.ownsRow base 45 6 (.slice AL n c) n xs)
    (h3 : W3.ownsRow base 45 6 (.slice A3 (n + 1) c3) (n + 1) (xs ++ [.string ⟨#[]⟩, .int .u8 0, .int .i64 0, .string ⟨#[]⟩, .slice none 0 0, .slice none 0 0])) :
    ∃ q, A3 = some ⟨q, 0, none⟩ ∧ base ≤ q ∧ q < W3.heap.size ∧ n + 1 ≤ c3 ∧ (∀ i, W3.frozen? ⟨q, i, none⟩ = false) ∧ W3.cell? ⟨q, n * 6, none⟩ = some (.string ⟨#[]⟩) ∧ W3.cell? ⟨q, n * 6 + 1, none⟩ = some (.int .u8 0) ∧ W3.cell? ⟨q, n * 6 + 1 + 1, none⟩ = some (.int .i64 0) ∧ W3.cell? ⟨q, n * 6 + 1 + 2, none⟩ = some (.string ⟨#[]⟩) ∧ W3.cell? ⟨q, n * 6 + 1 + 3, none⟩ = some (.slice none 0 0) ∧ W3.cell? ⟨q, n * 6 + 1 + 4, none⟩ = some (.slice none 0 0) ∧
      W3.cell? ⟨q, n * 6 + 2, none⟩ = some (.int .i64 0) ∧ W3.cell? ⟨q, n * 6 + 3, none⟩ = some (.string ⟨#[]⟩) ∧ W3.cell? ⟨q, n * 6 + 4, none⟩ = some (.slice none 0 0) ∧ W3.cell? ⟨q, n * 6 + 5, none⟩ = some (.slice none 0 0) := by
  obtain ⟨q, rfl, h1, h2, h4, cur, hw, hs⟩ := own_last h3
  have hl : xs.length = n * 6 := h.1
  have hc : ∀ (j : Nat) (u : Value), (xs ++ [.string ⟨#[]⟩, .int .u8 0, .int .i64 0, .string ⟨#[]⟩, .slice none 0 0, .slice none 0 0])[j]? = some u → W3.cell? ⟨q, j, none⟩ = some u := fun j u hj => by
    have := h3.cells (g := q) rfl j u hj
    by_cases e : j = 0 <;> simpa [Addr.add, e] using this
  refine ⟨q, rfl, h1, h2, h4, fun i => hw.frozen i, hc _ _ ?_, hc _ _ ?_, hc _ _ ?_, hc _ _ ?_, hc _ _ ?_, hc _ _ ?_, hc _ _ ?_, hc _ _ ?_, hc _ _ ?_, hc _ _ ?_⟩ <;> rw [List.getElem?_append_right (by omega)] <;> simp [hl, Nat.add_assoc]
/-- What the append leaves of V's block. -/
theorem grown_keepsO {W0 W W2 W3 : World} {R n c : Nat} {AO : Option Addr} {l : List (ByteArray × GV)} {xs : List Value} (h : OInv W0 R l W) (hv : Whole W (W0.heap.size + 2) 31 #[.int .u8 5, .int .i64 0, .string ⟨#[]⟩, .slice none 0 0, .slice AO n c])
    (hown : W.ownsRow (W0.heap.size + 3) 45 6 (.slice AO n c) n xs) (hr : Rd R W W2) (hg : W2.grownBy W3 (Value.slice AO n c).ownBlock) :
    W3.cell? ⟨W0.heap.size + 2, 4, none⟩ = some (.slice AO n c) ∧ W3.frozen? ⟨W0.heap.size + 2, 4, none⟩ = false ∧ Whole W3 (W0.heap.size + 2) 31 #[.int .u8 5, .int .i64 0, .string ⟨#[]⟩, .slice none 0 0, .slice AO n c] := by
  have hne : ∀ k, k < W0.heap.size + 3 → some k ≠ (Value.slice AO n c).ownBlock := fun k hk e => by have := (hown.lt k e.symm).1; omega
  have := h.lt
  exact ⟨(((hr.whole hv (by omega)).grown hg (hne _ (by omega))).cell 4).trans rfl, ((hr.whole hv (by omega)).grown hg (hne _ (by omega))).frozen 4, (hr.whole hv (by omega)).grown hg (hne _ (by omega))⟩
/-- A field more. -/
theorem fld_fin {W0 W W2 W3 W4 : World} {R n0 q c3 cO : Nat} {AO : Option Addr} {l : List (ByteArray × GV)} {g : GV} {t : ByteArray} {L O : Value} {xs : List Value} (hI : OInv W0 R l W) (hn : W.heap.size ≤ n0)
    (hown : W.ownsRow (W0.heap.size + 3) 45 6 (.slice AO l.length cO) l.length xs) (hrow : RowO (fun k => W0.heap.size + 3 ≤ k ∧ (Value.slice AO l.length cO).ownBlock ≠ some k) W (l.map (·.1)) (l.map (·.2)) xs) (hR : Rd R W W2)
    (hL : LstV (fun k => n0 ≤ k) W2 L g.items) (hO : ObjV (fun k => n0 ≤ k) W2 O g.keys g.vals)
    (hg : W2.grownBy W3 (Value.slice AO l.length cO).ownBlock) (hat : (Value.slice (some ⟨q, 0, none⟩) (l.length + 1) c3).ownBlock = (Value.slice AO l.length cO).ownBlock ∨ (Value.slice (some ⟨q, 0, none⟩) (l.length + 1) c3).ownBlock = some W2.heap.size)
    (h4 : Lst2 (W0.heap.size + 2) q W3 W4) (hv4 : Whole W4 (W0.heap.size + 2) 31 #[.int .u8 5, .int .i64 0, .string ⟨#[]⟩, .slice none 0 0, .slice (some ⟨q, 0, none⟩) (l.length + 1) c3])
    (hown4 : W4.ownsRow (W0.heap.size + 3) 45 6 (.slice (some ⟨q, 0, none⟩) (l.length + 1) c3) (l.length + 1) (xs ++ (.string t :: chunk g L O))) : OInv W0 R (l ++ [(t, g)]) W4 ∧ ∀ k, k < W0.heap.size → W4.heap[k]? = W2.heap[k]? := by
  have hR0 := hI.lt
  have hbox := hI.box.lt
  obtain ⟨_, _, hvw, _, _⟩ := hI.val
  have hvl := hvw.lt
  have hs := hR.size
  have hok : ∀ k, n0 ≤ k → k < W2.heap.size → W0.heap.size + 3 ≤ k ∧ (Value.slice AO l.length cO).ownBlock ≠ some k := fun k hk _ => ⟨by omega, fun e => by have := (hown.lt k e).2; omega⟩
  have hne : ∀ k, k < W0.heap.size + 3 → some k ≠ (Value.slice AO l.length cO).ownBlock := fun k hk e => by have := (hown.lt k e.symm).1; omega
  have hkeep : From (fun k => W0.heap.size + 3 ≤ k ∧ (Value.slice AO l.length cO).ownBlock ≠ some k) W W2 := fun k hk hlt => hR.far k hlt (by have := hk.1; omega)
  have hfar4 : ∀ k, k < W2.heap.size → k ≠ W0.heap.size + 2 → some k ≠ (Value.slice AO l.length cO).ownBlock → W4.heap[k]? = W2.heap[k]? := fun k hk hne hno => by
    have hkq : k ≠ q := fun e => by
      subst e
      rcases hat with h | h
      · exact hno h
      · have : k = W2.heap.size := by simpa [Value.ownBlock] using h
        omega
    exact (h4.far k hne hkq).trans (hg.block k hk hno)
  have hI2 := hI.step hR
  obtain ⟨cs, hcs, hres⟩ := hI2.res
  have hsz : W2.heap.size ≤ W4.heap.size := by rw [h4.size]; exact hg.size
  have hW : From (fun k => W0.heap.size + 3 ≤ k ∧ (Value.slice AO l.length cO).ownBlock ≠ some k) W2 W4 := fun k hk hlt => hfar4 k hlt (by have := hk.1; omega) (fun e => hk.2 e.symm)
  refine ⟨⟨⟨(h4.os.trans hg.os).trans hI2.rd.os, (h4.tape.trans hg.tape).trans hI2.rd.tape, (h4.output.trans hg.output).trans hI2.rd.output, Nat.le_trans hI2.rd.size hsz, fun k hk hn => (hfar4 k (Nat.lt_of_lt_of_le hk hI2.rd.size) (by omega) (hne k (by omega))).trans (hI2.rd.far k hk hn)⟩, hR0,
    hI2.box.of_eq (hfar4 _ hI2.box.lt (by omega) (hne _ (by omega))), ⟨cs, hcs, hres.of_eq (hfar4 _ hres.lt (by omega) (hne _ (by omega)))⟩, _, _, hv4, by rw [List.length_append]; exact hown4, ?_⟩, fun k hk => hfar4 k (by omega) (by omega) (hne k (by omega))⟩
  rw [List.map_append, List.map_append]
  exact (RowO.snoc (k := t) (hL.keep (From.refl _ _) hok) (hO.keep (From.refl _ _) hok) (hrow.keep hkeep fun k hk _ => hk)).keep hW fun k hk hlt => ⟨hk.1, at_ne hat hk.2 hlt⟩
end Go.Proofs.YtmmjkhkcffgeiaaDoor
