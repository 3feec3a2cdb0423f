/- json's reader: a cell after another of a row's last item is stored into; nothing is walked. -/
import Derived.Test.YtmmjkhkcffgeiaaDoorRdL
namespace Go.Proofs.YtmmjkhkcffgeiaaDoor
open Go Go.RowKit Go.Shelf

/-- Five cells of block q, from o on. -/
def cells5 (W : World) (q o : Nat) (a b c d e : Value) : World := ((((W.setCell ⟨q, o, none⟩ a).setCell ⟨q, o + 1, none⟩ b).setCell ⟨q, o + 2, none⟩ c).setCell ⟨q, o + 3, none⟩ d).setCell ⟨q, o + 4, none⟩ e
theorem cells5_far (W : World) (q o : Nat) (a b c d e : Value) {k : Nat} (h : k ≠ q) : (cells5 W q o a b c d e).heap[k]? = W.heap[k]? := by
  unfold cells5
  rw [Below.heap_setCell _ ⟨q, o + 4, none⟩ _ k h, Below.heap_setCell _ ⟨q, o + 3, none⟩ _ k h, Below.heap_setCell _ ⟨q, o + 2, none⟩ _ k h, Below.heap_setCell _ ⟨q, o + 1, none⟩ _ k h, Below.heap_setCell _ ⟨q, o, none⟩ _ k h]
theorem cells5_size (W : World) (q o : Nat) (a b c d e : Value) : (cells5 W q o a b c d e).heap.size = W.heap.size := by simp [cells5]
theorem own_cells5 {W : World} {base : Nat} {t : TypeId} {n q cap : Nat} {xs : List Value} {z0 z1 z2 z3 z4 : Value} (hx : xs.length = n * 5) (h : W.ownsRow base t 5 (.slice (some ⟨q, 0, none⟩) (n + 1) cap) (n + 1) (xs ++ [z0, z1, z2, z3, z4])) (a b c d e : Value) :
    (cells5 W q (n * 5) a b c d e).ownsRow base t 5 (.slice (some ⟨q, 0, none⟩) (n + 1) cap) (n + 1) (xs ++ [a, b, c, d, e]) := by
  have h5 := own_put (own_put (own_put (own_put (own_put h (n * 5) (by omega) a) (n * 5 + 1) (by omega) b) (n * 5 + 2) (by omega) c) (n * 5 + 3) (by omega) d) (n * 5 + 4) (by omega) e
  have e0 : n * 5 - xs.length = 0 := by omega
  have e1 : n * 5 + 1 - xs.length = 1 := by omega
  have e2 : n * 5 + 2 - xs.length = 2 := by omega
  have e3 : n * 5 + 3 - xs.length = 3 := by omega
  have e4 : n * 5 + 4 - xs.length = 4 := by omega
  rw [List.set_append_right _ _ (by omega), List.set_append_right _ _ (by omega), List.set_append_right _ _ (by omega), List.set_append_right _ _ (by omega), List.set_append_right _ _ (by omega), e0, e1, e2, e3, e4] at h5
  exact h5
/-- Six. -/
def cells6 (W : World) (q o : Nat) (x a b c d e : Value) : World := cells5 (W.setCell ⟨q, o, none⟩ x) q (o + 1) a b c d e
theorem cells6_far (W : World) (q o : Nat) (x a b c d e : Value) {k : Nat} (h : k ≠ q) : (cells6 W q o x a b c d e).heap[k]? = W.heap[k]? := by
  unfold cells6
  rw [cells5_far _ _ _ _ _ _ _ _ h, Below.heap_setCell _ ⟨q, o, none⟩ _ k h]
theorem cells6_size (W : World) (q o : Nat) (x a b c d e : Value) : (cells6 W q o x a b c d e).heap.size = W.heap.size := by simp [cells6, cells5]
theorem own_cells6 {W : World} {base : Nat} {t : TypeId} {n q cap : Nat} {xs : List Value} {z z0 z1 z2 z3 z4 : Value} (hx : xs.length = n * 6) (h : W.ownsRow base t 6 (.slice (some ⟨q, 0, none⟩) (n + 1) cap) (n + 1) (xs ++ [z, z0, z1, z2, z3, z4])) (x a b c d e : Value) :
    (cells6 W q (n * 6) x a b c d e).ownsRow base t 6 (.slice (some ⟨q, 0, none⟩) (n + 1) cap) (n + 1) (xs ++ [x, a, b, c, d, e]) := by
  have h5 := own_put (own_put (own_put (own_put (own_put (own_put h (n * 6) (by omega) x) (n * 6 + 1) (by omega) a) (n * 6 + 1 + 1) (by omega) b) (n * 6 + 1 + 2) (by omega) c) (n * 6 + 1 + 3) (by omega) d) (n * 6 + 1 + 4) (by omega) e
  have ez : n * 6 - xs.length = 0 := by omega
  have e0 : n * 6 + 1 - xs.length = 1 := by omega
  have e1 : n * 6 + 1 + 1 - xs.length = 2 := by omega
  have e2 : n * 6 + 1 + 2 - xs.length = 3 := by omega
  have e3 : n * 6 + 1 + 3 - xs.length = 4 := by omega
  have e4 : n * 6 + 1 + 4 - xs.length = 5 := by omega
  rw [List.set_append_right _ _ (by omega), List.set_append_right _ _ (by omega), List.set_append_right _ _ (by omega), List.set_append_right _ _ (by omega), List.set_append_right _ _ (by omega), List.set_append_right _ _ (by omega), ez, e0, e1, e2, e3, e4] at h5
  exact h5

theorem set_os (W : World) (a : Addr) (v : Value) : (W.setCell a v).os = W.os := rfl
theorem set_tape (W : World) (a : Addr) (v : Value) : (W.setCell a v).tape = W.tape := rfl
theorem set_output (W : World) (a : Addr) (v : Value) : (W.setCell a v).output = W.output := rfl
/-- What the last stores leave of a world: all but V's block and the row's. -/
structure Lst2 (v q : Nat) (W3 W4 : World) : Prop where
  os : W4.os = W3.os
  tape : W4.tape = W3.tape
  output : W4.output = W3.output
  size : W4.heap.size = W3.heap.size
  far : ∀ k, k ≠ v → k ≠ q → W4.heap[k]? = W3.heap[k]?
theorem lst2_a (W : World) (v q o i : Nat) (x a b c d e : Value) : Lst2 v q W ((cells5 W q o a b c d e).setCell ⟨v, i, none⟩ x) :=
  ⟨by simp only [cells5, set_os], by simp only [cells5, set_tape], by simp only [cells5, set_output], by simp [cells5_size], fun k h1 h2 => by rw [Below.heap_setCell _ ⟨v, i, none⟩ _ k h1, cells5_far _ _ _ _ _ _ _ _ h2]⟩
theorem lst2_b (W : World) (v q o i : Nat) (x a b c d e : Value) : Lst2 v q W (cells5 (W.setCell ⟨v, i, none⟩ x) q o a b c d e) :=
  ⟨by simp only [cells5, set_os], by simp only [cells5, set_tape], by simp only [cells5, set_output], by simp [cells5_size], fun k h1 h2 => by rw [cells5_far _ _ _ _ _ _ _ _ h2, Below.heap_setCell _ ⟨v, i, none⟩ _ k h1]⟩
theorem lst2_c (W : World) (v q o i : Nat) (y x a b c d e : Value) : Lst2 v q W ((cells6 W q o y a b c d e).setCell ⟨v, i, none⟩ x) :=
  ⟨by simp only [cells6, cells5, set_os], by simp only [cells6, cells5, set_tape], by simp only [cells6, cells5, set_output], by simp [cells6_size], fun k h1 h2 => by rw [Below.heap_setCell _ ⟨v, i, none⟩ _ k h1, cells6_far _ _ _ _ _ _ _ _ _ h2]⟩
theorem lst2_d (W : World) (v q o i : Nat) (y x a b c d e : Value) : Lst2 v q W (cells6 (W.setCell ⟨v, i, none⟩ x) q o y a b c d e) :=
  ⟨by simp only [cells6, cells5, set_os], by simp only [cells6, cells5, set_tape], by simp only [cells6, cells5, set_output], by simp [cells6_size], fun k h1 h2 => by rw [cells6_far _ _ _ _ _ _ _ _ _ h2, Below.heap_setCell _ ⟨v, i, none⟩ _ k h1]⟩

/-- An item more: told of the world ahead of the append and of the one at the end. -/
theorem one_fin {W0 W W2 W3 W4 : World} {R n0 q c3 cL : Nat} {AL : Option Addr} {l : List GV} {g : GV} {L O : Value} {xs : List Value} (hI : LInv W0 R l W) (hn : W.heap.size ≤ n0)
    (hown : W.ownsRow (W0.heap.size + 3) 31 5 (.slice AL l.length cL) l.length xs) (hrow : RowL (fun k => W0.heap.size + 3 ≤ k ∧ (Value.slice AL l.length cL).ownBlock ≠ some k) W l xs) (hR : Rd R W W2)
    (hL : LstV (fun k => n0 ≤ k) W2 L g.items) (hO : ObjV (fun k => n0 ≤ k) W2 O g.keys g.vals)
    (hg : W2.grownBy W3 (Value.slice AL l.length cL).ownBlock) (hat : (Value.slice (some ⟨q, 0, none⟩) (l.length + 1) c3).ownBlock = (Value.slice AL l.length cL).ownBlock ∨ (Value.slice (some ⟨q, 0, none⟩) (l.length + 1) c3).ownBlock = some W2.heap.size)
    (h4 : Lst2 (W0.heap.size + 2) q W3 W4) (hv4 : Whole W4 (W0.heap.size + 2) 31 #[.int .u8 4, .int .i64 0, .string ⟨#[]⟩, .slice (some ⟨q, 0, none⟩) (l.length + 1) c3, .slice none 0 0])
    (hown4 : W4.ownsRow (W0.heap.size + 3) 31 5 (.slice (some ⟨q, 0, none⟩) (l.length + 1) c3) (l.length + 1) (xs ++ chunk g L O)) : LInv W0 R (l ++ [g]) W4 ∧ ∀ k, k < W0.heap.size → W4.heap[k]? = W2.heap[k]? := by
  have hR0 := hI.lt
  have hbox := hI.box.lt
  have hv := hI.val
  obtain ⟨_, _, hvw, _, _⟩ := hv
  have hvl := hvw.lt
  have hok : ∀ k, n0 ≤ k → k < W2.heap.size → W0.heap.size + 3 ≤ k ∧ (Value.slice AL l.length cL).ownBlock ≠ some k := fun k hk _ => ⟨by omega, fun e => by have := (hown.lt k e).2; omega⟩
  have hkeep : From (fun k => W0.heap.size + 3 ≤ k ∧ (Value.slice AL l.length cL).ownBlock ≠ some k) W W2 := fun k hk hlt => hR.far k hlt (by have := hk.1; omega)
  have hfar4 : ∀ k, k < W2.heap.size → k ≠ W0.heap.size + 2 → some k ≠ (Value.slice AL l.length cL).ownBlock → W4.heap[k]? = W2.heap[k]? := fun k hk hne hno => by
    have hkq : k ≠ q := fun e => by
      subst e
      rcases hat with h | h
      · exact hno h
      · have : k = W2.heap.size := by simpa [Value.ownBlock] using h
        omega
    exact (h4.far k hne hkq).trans (hg.block k hk hno)
  refine ⟨(hI.step hR).more hv4 (own_rd hown hR (by omega)) (hrow.keep hkeep fun k hk _ => hk) (hL.keep (From.refl _ _) hok) (hO.keep (From.refl _ _) hok) hown4 hat (h4.os.trans hg.os) (h4.tape.trans hg.tape) (h4.output.trans hg.output) (by rw [h4.size]; exact hg.size) hfar4, fun k hk => ?_⟩
  have hs := hR.size
  exact hfar4 k (by omega) (by omega) (fun e => by have := (hown.lt k e.symm).1; omega)
theorem at_eq {W W' : World} {R : Nat} {s : ByteArray} {i d : Nat} (h : At W R s i d) (e : W'.heap[R]? = W.heap[R]?) : At W' R s i d := ⟨h.whole.of_eq e, h.le, h.max⟩
theorem from_alloc (ok : Nat → Prop) (W : World) (o : Obj) : From ok W (W.alloc o) := fun k _ hk => Below.heap_alloc W o k hk
end Go.Proofs.YtmmjkhkcffgeiaaDoor
