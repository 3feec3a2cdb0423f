/- The document's own Deep and Weight: what they come to for a value, whatever it is. -/
import Derived.Test.YtoinlehkmgmlbaaDoorItems
import Derived.WalkKit
import Derived.WalkSpells
import Derived.WalkLawsBesides
import Derived.Lib.Hide
import Derived.BigQuiet
namespace Go.Proofs.YtoinlehkmgmlbaaDoor
open Go Go.RowKit

theorem deeps_take : ∀ (l : List GV) (k : Nat) (h : k < l.length), GV.deeps (l.take (k + 1)) = max (GV.deeps (l.take k)) (1 + l[k].deep)
  | [], _, h => by simp at h
  | x :: r, 0, _ => by simp [GV.deeps]
  | x :: r, k + 1, h => by
    have := deeps_take r k (by simpa using h)
    simp only [List.take_succ_cons, GV.deeps, List.getElem_cons_succ, this]
    omega
theorem weights_take : ∀ (l : List GV) (k : Nat) (h : k < l.length), GV.weights (l.take (k + 1)) = GV.weights (l.take k) + l[k].weight
  | [], _, h => by simp at h
  | x :: r, 0, _ => by simp [GV.weights]
  | x :: r, k + 1, h => by
    have := weights_take r k (by simpa using h)
    simp only [List.take_succ_cons, GV.weights, List.getElem_cons_succ, this]
    omega
theorem weights_take_le (l : List GV) (k : Nat) : GV.weights (l.take k) ≤ GV.weights l := by
  induction l generalizing k with
  | nil => simp
  | cons x r ih =>
    cases k with
    | zero => simp [GV.weights]
    | succ k => simp only [List.take_succ_cons, GV.weights]; have := ih k; omega
theorem sizes_get : ∀ (l : List GV) (k : Nat) (h : k < l.length), l[k].size ≤ GV.sizes l
  | [], _, h => by simp at h
  | x :: r, 0, _ => by simp [GV.sizes]
  | x :: r, k + 1, h => by
    have := sizes_get r k (by simpa using h)
    simp only [GV.sizes, List.getElem_cons_succ]
    omega
theorem deeps_take_le (l : List GV) (k : Nat) : GV.deeps (l.take k) ≤ GV.deeps l := by
  induction l generalizing k with
  | nil => simp
  | cons x r ih =>
    cases k with
    | zero => simp [GV.deeps]
    | succ k => simp only [List.take_succ_cons, GV.deeps]; have := ih k; omega
mutual
theorem deep_lt_size : ∀ (g : GV), g.deep < g.size
  | .mk k n s l ks ov => by
    have h1 := deeps_le_sizes l
    have h2 := deeps_le_sizes ov
    simp only [GV.deep, GV.size]
    omega
theorem deeps_le_sizes : ∀ (l : List GV), GV.deeps l ≤ GV.sizes l
  | [] => by simp [GV.deeps]
  | x :: r => by
    have h1 := deep_lt_size x
    have h2 := deeps_le_sizes r
    simp only [GV.deeps, GV.sizes]
    omega
end

/-- The cells of the k-th value of a list, and what they make. -/
theorem item_at {ok : Nat → Prop} {w : World} {b o : Nat} {l : List GV} (hE : GV.els ok w b 5 o l) (hK : Kind w ok b 29) {k : Nat} (hk : k < l.length) : ∃ A1 c1 A2 c2,
    (∀ W, Below w.heap.size w W → W.cell? ⟨b, o + k * 5, none⟩ = some (.int .u8 l[k].kind) ∧ W.cell? ⟨b, o + k * 5 + 1, none⟩ = some (.int .i64 l[k].num) ∧ W.cell? ⟨b, o + k * 5 + 2, none⟩ = some (.string l[k].str) ∧
      W.cell? ⟨b, o + k * 5 + 3, none⟩ = some (.slice A1 l[k].items.length c1) ∧ W.cell? ⟨b, o + k * 5 + 4, none⟩ = some (.slice A2 l[k].vals.length c2)) ∧
    (∀ W, Below w.heap.size w W → l[k].val (fun j => j < w.heap.size) W (.agg #[.int .u8 l[k].kind, .int .i64 l[k].num, .string l[k].str, .slice A1 l[k].items.length c1, .slice A2 l[k].vals.length c2])) := by
  have h := GV.els_get hE (List.getElem?_eq_getElem hk)
  obtain ⟨L, O, h0, h1, h2, h3, h4, hL, hO⟩ := GV.at_iff.1 h
  obtain ⟨A1, c1, rfl⟩ := lst_form hL
  obtain ⟨A2, c2, rfl⟩ := obj_form hO
  have hc : ∀ W, Below w.heap.size w W → ∀ j v, w.cell? ⟨b, j, none⟩ = some v → W.cell? ⟨b, j, none⟩ = some v := fun W hb j v hv => (hb.cell (p := ⟨b, j, none⟩) hK.lt).trans hv
  exact ⟨A1, c1, A2, c2, fun W hb => ⟨hc W hb _ _ h0, hc W hb _ _ h1, hc W hb _ _ h2, hc W hb _ _ h3, hc W hb _ _ h4⟩,
    fun W hb => ⟨_, _, rfl, hL.keep (fun j _ hj => hb.block j hj) (fun j _ hj => hj), hO.keep (fun j _ hj => hb.block j hj) (fun j _ hj => hj)⟩⟩
/-- The cells of the k-th field of an object, and what they make. -/
theorem field_at {ok : Nat → Prop} {w : World} {b o : Nat} {ks : List ByteArray} {l : List GV} (hks : KeysAt w b o ks) (hE : GV.els ok w b 6 (o + 1) l) (hK : Kind w ok b 52) {k : Nat} (hk : k < l.length) (hk' : k < ks.length) : ∃ A1 c1 A2 c2,
    (∀ W, Below w.heap.size w W → W.cell? ⟨b, o + k * 6, none⟩ = some (.string ks[k]) ∧ W.cell? ⟨b, o + k * 6 + 1, none⟩ = some (.int .u8 l[k].kind) ∧ W.cell? ⟨b, o + k * 6 + 1 + 1, none⟩ = some (.int .i64 l[k].num) ∧ W.cell? ⟨b, o + k * 6 + 1 + 2, none⟩ = some (.string l[k].str) ∧
      W.cell? ⟨b, o + k * 6 + 1 + 3, none⟩ = some (.slice A1 l[k].items.length c1) ∧ W.cell? ⟨b, o + k * 6 + 1 + 4, none⟩ = some (.slice A2 l[k].vals.length c2)) ∧
    (∀ W, Below w.heap.size w W → l[k].val (fun j => j < w.heap.size) W (.agg #[.int .u8 l[k].kind, .int .i64 l[k].num, .string l[k].str, .slice A1 l[k].items.length c1, .slice A2 l[k].vals.length c2])) := by
  have h := GV.els_get hE (List.getElem?_eq_getElem hk)
  have hkey := hks.get (List.getElem?_eq_getElem hk')
  rw [show o + 1 + k * 6 = o + k * 6 + 1 by omega] at h
  obtain ⟨L, O, h0, h1, h2, h3, h4, hL, hO⟩ := GV.at_iff.1 h
  obtain ⟨A1, c1, rfl⟩ := lst_form hL
  obtain ⟨A2, c2, rfl⟩ := obj_form hO
  have hc : ∀ W, Below w.heap.size w W → ∀ j v, w.cell? ⟨b, j, none⟩ = some v → W.cell? ⟨b, j, none⟩ = some v := fun W hb j v hv => (hb.cell (p := ⟨b, j, none⟩) hK.lt).trans hv
  exact ⟨A1, c1, A2, c2, fun W hb => ⟨hc W hb _ _ hkey, hc W hb _ _ h0, hc W hb _ _ h1, hc W hb _ _ h2, hc W hb _ _ h3, hc W hb _ _ h4⟩,
    fun W hb => ⟨_, _, rfl, hL.keep (fun j _ hj => hb.block j hj) (fun j _ hj => hj), hO.keep (fun j _ hj => hb.block j hj) (fun j _ hj => hj)⟩⟩

/-- Between the rounds: how far, and what was come to. -/
def DeepRel (W0 : World) (l : List GV) (z : Nat) (n i : Value) (wr : World) : Prop := ∃ k : Nat, i = .int .i64 k ∧ k ≤ l.length ∧ n = .int .i64 (max z (GV.deeps (l.take k)) : Nat) ∧ Below W0.heap.size W0 wr

end Go.Proofs.YtoinlehkmgmlbaaDoor
