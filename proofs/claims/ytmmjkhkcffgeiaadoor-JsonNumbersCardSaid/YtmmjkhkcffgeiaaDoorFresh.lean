/- strings.Clone, and fresh: a list in new memory. -/
import Derived.Test.YtmmjkhkcffgeiaaDoorBaseA
import Derived.Test.YtmmjkhkcffgeiaaDoorLays
import Derived.WalkKit
import Derived.WalkSpells
import Derived.WalkLawsBesides
import Derived.OwnWalk
import Derived.Lib.Hide
namespace Go.Proofs.YtmmjkhkcffgeiaaDoor
open Go Go.RowKit

section
variable {P : Program} (w : World)
theorem run_copy_mine (dT sT ty elem : TypeId) (i : TypeInfo) (g n c c' : Nat) (a : Addr) (cur : Array Value) (t : TypeId) (cs : List Value)
    (hu : P.underlying dT = some (.slice elem)) (hi : P.info? elem = some i) (hg : w.heap[g]? = some (.cells cur t (0, 0))) (hn : cs.length = n * i.size)
    (hsrc : ∀ j v, cs[j]? = some v → w.cell? (a.add j) = some v) (hfit : cur.size = cs.length) (h1 : ∀ v ∈ cs, v.oneCell' = true) :
    (Builtin.copy_ #[dT, sT] ty #[.slice (some ⟨g, 0, none⟩) n c, .slice (some a) n c']).run P w = .ok (goInt n) (w.setRow g cs.toArray) := by
  have hl := run_firstCells_some (P := P) w i.size n a n c' cs hn hsrc
  have hst := run_storeCells_at P g 0 t cs 0 cur w hg (by simp; omega) h1
  have hd : cur.toList.drop (0 + 0 + cs.length) = [] := by apply List.drop_eq_nil_of_le; simp [← hfit]
  rw [hd] at hst
  simp only [Nat.add_zero, List.take_zero, List.nil_append, List.append_nil] at hst
  have hmin : Nat.min n n = n := Nat.min_self n
  simp [Builtin.copy_, run_underlying hu, Builtin.lenOf, sizeOf, typeInfo, hi, hmin, hl, hst]
theorem wpList_copy_mine {ops : Array Oper} {rest : List Oper} {o : Oper} {act : Act} {Q : Exit → Act → World → Prop} (hgd : o.guard = none) (d s : Operand) (dT sT : TypeId)
    (ho : o.op = .call { callee := .builtin .copy, args := #[d, s], argTypes := #[dT, sT] }) (elem : TypeId) (i : TypeInfo) (g n c c' : Nat) (a : Addr) (cur : Array Value) (t : TypeId) (cs : List Value)
    (hd : act.eval d = .slice (some ⟨g, 0, none⟩) n c) (hs : act.eval s = .slice (some a) n c')
    (hu : P.underlying dT = some (.slice elem)) (hi : P.info? elem = some i) (hg : w.heap[g]? = some (.cells cur t (0, 0))) (hn : cs.length = n * i.size)
    (hsrc : ∀ j v, cs[j]? = some v → w.cell? (a.add j) = some v) (hfit : cur.size = cs.length) (h1 : ∀ v ∈ cs, v.oneCell' = true)
    (h : ∀ w', w' = w.setRow g cs.toArray → wpList P ops Q rest (act.put o.dst (goInt n)) w') : wpList P ops Q (o :: rest) act w := by
  refine wpList_plain hgd fun K hK => ?_
  have hrun := run_copy_mine (P := P) w dT sT o.type elem i g n c c' a cur t cs hu hi hg hn hsrc hfit h1
  unfold Oper.wp
  simp [execOp, ho, resolve, invoke, builtin, hd, hs, hrun, Result.andThen]
  exact hK _ _ (h _ rfl)
end

/-- The cells of a list of values, as they lie. -/
theorem els_row {ok : Nat → Prop} {W : World} {b : Nat} : ∀ {l : List GV} {off : Nat}, GV.els ok W b 5 off l →
    ∃ xs, RowL ok W l xs ∧ xs.length = l.length * 5 ∧ (∀ (j : Nat) (u : Value), xs[j]? = some u → W.cell? ⟨b, off + j, none⟩ = some u) ∧ ∀ u ∈ xs, u.oneCell' = true
  | [], _, _ => ⟨[], rfl, rfl, fun j u h => by simp at h, fun u h => by cases h⟩
  | g :: r, off, h => by
    unfold GV.els at h
    obtain ⟨ys, hr, hlen, hc, h1⟩ := els_row (l := r) h.2
    obtain ⟨L, O, h0, h1', h2, h3, h4, hL, hO⟩ := GV.at_iff.1 h.1
    refine ⟨chunk g L O ++ ys, ⟨L, O, ys, rfl, hL, hO, hr⟩, by simp [chunk, hlen]; omega, fun j u hj => ?_, fun u hu => ?_⟩
    · match j, hj with
      | 0, hj => simp [chunk] at hj; subst hj; exact h0
      | 1, hj => simp [chunk] at hj; subst hj; exact h1'
      | 2, hj => simp [chunk] at hj; subst hj; exact h2
      | 3, hj => simp [chunk] at hj; subst hj; exact h3
      | 4, hj => simp [chunk] at hj; subst hj; exact h4
      | j + 5, hj =>
        have := hc j u (by simpa [chunk] using hj)
        rwa [show off + 5 + j = off + (j + 5) by omega] at this
    · obtain ⟨A, c, rfl⟩ := lst_form hL
      obtain ⟨A', c', rfl⟩ := obj_form hO
      simp only [chunk, List.cons_append, List.nil_append, List.mem_cons] at hu
      rcases hu with rfl | rfl | rfl | rfl | rfl | hu
      · rfl
      · rfl
      · rfl
      · rfl
      · rfl
      · exact h1 u hu
theorem els_rowO {ok : Nat → Prop} {W : World} {b : Nat} : ∀ {ks : List ByteArray} {l : List GV} {off : Nat}, ks.length = l.length → KeysAt W b off ks → GV.els ok W b 6 (off + 1) l →
    ∃ xs, RowO ok W ks l xs ∧ xs.length = l.length * 6 ∧ (∀ (j : Nat) (u : Value), xs[j]? = some u → W.cell? ⟨b, off + j, none⟩ = some u) ∧ ∀ u ∈ xs, u.oneCell' = true
  | [], [], _, _, _, _ => ⟨[], rfl, rfl, fun j u h => by simp at h, fun u h => by cases h⟩
  | [], _ :: _, _, h, _, _ => by simp at h
  | _ :: _, [], _, h, _, _ => by simp at h
  | k :: ks, g :: r, off, hl, hk, h => by
    unfold GV.els at h
    rw [show off + 1 + 6 = off + 6 + 1 by omega] at h
    obtain ⟨ys, hr, hlen, hc, h1⟩ := els_rowO (ks := ks) (l := r) (by simpa using hl) hk.2 h.2
    obtain ⟨L, O, h0, h1', h2, h3, h4, hL, hO⟩ := GV.at_iff.1 h.1
    refine ⟨.string k :: chunk g L O ++ ys, ⟨L, O, ys, rfl, hL, hO, hr⟩, by simp [chunk, hlen]; omega, fun j u hj => ?_, fun u hu => ?_⟩
    · match j, hj with
      | 0, hj => simp [chunk] at hj; subst hj; exact hk.1
      | 1, hj => simp [chunk] at hj; subst hj; exact h0
      | 2, hj => simp [chunk] at hj; subst hj; exact h1'
      | 3, hj => simp [chunk] at hj; subst hj; exact h2
      | 4, hj => simp [chunk] at hj; subst hj; exact h3
      | 5, hj => simp [chunk] at hj; subst hj; exact h4
      | j + 6, hj =>
        have := hc j u (by simpa [chunk] using hj)
        rwa [show off + 6 + j = off + (j + 6) by omega] at this
    · obtain ⟨A, c, rfl⟩ := lst_form hL
      obtain ⟨A', c', rfl⟩ := obj_form hO
      simp only [chunk, List.cons_append, List.nil_append, List.mem_cons] at hu
      rcases hu with rfl | rfl | rfl | rfl | rfl | rfl | hu
      · rfl
      · rfl
      · rfl
      · rfl
      · rfl
      · rfl
      · exact h1 u hu

/-- What fresh makes of a list. -/
def FreshL (ok : Nat → Prop) (l : List GV) (w : World) (e : Ending) (w' : World) : Prop :=
  (l = [] ∧ e = .returned (.slice none 0 0) ∧ w = w') ∨
  (e = .returned (.slice (some ⟨w.heap.size, 0, none⟩) l.length l.length) ∧ Below w.heap.size w w' ∧ ∃ xs, RowL ok w l xs ∧ Whole w' w.heap.size 31 xs.toArray)
def FreshO (ok : Nat → Prop) (ks : List ByteArray) (l : List GV) (w : World) (e : Ending) (w' : World) : Prop :=
  (l = [] ∧ e = .returned (.slice none 0 0) ∧ w = w') ∨
  (e = .returned (.slice (some ⟨w.heap.size, 0, none⟩) l.length l.length) ∧ Below w.heap.size w w' ∧ ∃ xs, RowO ok w ks l xs ∧ Whole w' w.heap.size 45 xs.toArray)

end Go.Proofs.YtmmjkhkcffgeiaaDoor
