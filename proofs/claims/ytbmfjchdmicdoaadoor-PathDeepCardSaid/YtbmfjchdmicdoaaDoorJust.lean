/- Only some cells of one block are other ones; blocks may have come. What a value is once a part of it is another one. -/
import Derived.Test.YtbmfjchdmicdoaaDoorGet
namespace Go.Proofs.YtbmfjchdmicdoaaDoor
open Go Go.RowKit

/-- Of block b only the n cells from lo on are other ones; nothing else is; blocks may have come. -/
structure Just (b lo n : Nat) (W W' : World) : Prop where
  os : W'.os = W.os
  tape : W'.tape = W.tape
  output : W'.output = W.output
  size : W.heap.size ≤ W'.heap.size
  far : ∀ k, k < W.heap.size → k ≠ b → W'.heap[k]? = W.heap[k]?
  near : ∀ j, (j < lo ∨ lo + n ≤ j) → W'.cell? ⟨b, j, none⟩ = W.cell? ⟨b, j, none⟩
  row : ∀ t cs, Whole W b t cs → ∃ cs', Whole W' b t cs'
theorem Just.refl (b lo n : Nat) (W : World) : Just b lo n W W := ⟨rfl, rfl, rfl, Nat.le_refl _, fun _ _ _ => rfl, fun _ _ => rfl, fun _ cs h => ⟨cs, h⟩⟩
theorem Just.trans {b lo n : Nat} {W W' W'' : World} (h : Just b lo n W W') (k : Just b lo n W' W'') : Just b lo n W W'' :=
  ⟨k.os.trans h.os, k.tape.trans h.tape, k.output.trans h.output, Nat.le_trans h.size k.size, fun i hi hn => (k.far i (Nat.lt_of_lt_of_le hi h.size) hn).trans (h.far i hi hn), fun j hj => (k.near j hj).trans (h.near j hj),
    fun t cs hw => by obtain ⟨cs', h'⟩ := h.row t cs hw; exact k.row t cs' h'⟩
theorem Just.of_below {b lo n : Nat} {W W' : World} (h : Below W.heap.size W W') (hb : b < W.heap.size) : Just b lo n W W' :=
  ⟨h.os, h.tape, h.output, h.size, fun k hk _ => h.block k hk, fun j _ => h.cell (p := ⟨b, j, none⟩) hb, fun _ cs hw => ⟨cs, hw.below h hb⟩⟩
theorem Just.set {b lo n : Nat} (W : World) {j : Nat} (h1 : lo ≤ j) (h2 : j < lo + n) (u : Value) : Just b lo n W (W.setCell ⟨b, j, none⟩ u) := by
  refine ⟨rfl, rfl, rfl, by simp, fun k _ hn => Below.heap_setCell W ⟨b, j, none⟩ u k hn, fun i hi => ?_, fun t cs hw => ⟨_, hw.put j u⟩⟩
  rw [World.cell?_setCell_other]
  intro e
  cases e
  omega
theorem Just.below {b lo n B : Nat} {W W' : World} (h : Just b lo n W W') (hB : B ≤ b) (hs : B ≤ W.heap.size) : Below B W W' :=
  ⟨h.os, h.tape, h.output, h.size, fun k hk => h.far k (by omega) (by omega)⟩
theorem Just.from {b lo n : Nat} {ok : Nat → Prop} {W W' : World} (h : Just b lo n W W') (hb : ¬ ok b) : From ok W W' := fun k hk hl => h.far k hl (fun e => hb (e ▸ hk))
theorem just_put5 {b off : Nat} (W : World) (a0 a1 a2 a3 a4 : Value) : Just b off 5 W (((((W.setCell ⟨b, off, none⟩ a0).setCell ⟨b, off + 1, none⟩ a1).setCell ⟨b, off + 2, none⟩ a2).setCell ⟨b, off + 3, none⟩ a3).setCell ⟨b, off + 4, none⟩ a4) :=
  ((((Just.set W (Nat.le_refl _) (by omega) a0).trans (Just.set _ (by omega) (by omega) a1)).trans (Just.set _ (by omega) (by omega) a2)).trans (Just.set _ (by omega) (by omega) a3)).trans (Just.set _ (by omega) (by omega) a4)

/-- A list of the call's own in which one element is another one. -/
theorem own_setL {R B0 : Nat} {W W' : World} {v : Value} {l : List GV} {xs : List Value} {g k : Nat} {y : GV} (hr : RowL (fun k => k < R) W l xs) (ho : W.ownsRow B0 29 5 v l.length xs) (hR : R ≤ B0) {c : Nat} (hv : v = .slice (some ⟨g, 0, none⟩) l.length c)
    (hJ : Just g (0 + k * 5) 5 W W') (hy : y.at (fun _ => True) W' g (0 + k * 5)) : LstV (fun _ => True) W' v (l.set k y) := by
  subst hv
  rcases ho.2 with ⟨hn, _⟩ | ⟨g', cap, cur, he, hb, hg, h1, h2, h3, h4⟩
  · cases hn
  cases he
  have hF : From (fun k => k < R) W W' := hJ.from (by omega)
  obtain ⟨cs', hw'⟩ := hJ.row _ _ (show Whole W g 29 cur from hg)
  have hE : GV.els (fun k => k < R) W g 5 0 l := hr.els fun j u hj => by
    have := ho.cells (g := g) rfl j u hj
    by_cases e : j = 0 <;> simpa [Addr.add, e] using this
  refine .inr ⟨g, 0, c, by rw [List.length_set], by rw [List.length_set]; exact h1, h2, hw'.kind trivial, GV.els_of fun i a ha => ?_⟩
  by_cases e : i = k
  · subst e
    rw [List.getElem?_set] at ha
    simp only [if_true] at ha
    split at ha
    · cases ha; exact hy
    · cases ha
  · rw [List.getElem?_set_ne (Ne.symm e)] at ha
    obtain ⟨L, O, c0, c1, c2, c3, c4, hL, hO⟩ := GV.at_iff.1 (GV.els_get hE ha)
    have hn : ∀ d, d < 5 → W'.cell? ⟨g, 0 + i * 5 + d, none⟩ = W.cell? ⟨g, 0 + i * 5 + d, none⟩ := fun d hd => hJ.near _ (by omega)
    have n0 := hn 0 (by omega)
    rw [Nat.add_zero] at n0
    exact GV.at_iff.2 ⟨L, O, n0.trans c0, (hn 1 (by omega)).trans c1, (hn 2 (by omega)).trans c2, (hn 3 (by omega)).trans c3, (hn 4 (by omega)).trans c4, hL.keep hF (fun _ _ _ => trivial), hO.keep hF (fun _ _ _ => trivial)⟩
/-- An object of the call's own in which one value is another one. -/
theorem own_setO {R B0 : Nat} {W W' : World} {v : Value} {ks : List ByteArray} {l : List GV} {xs : List Value} {g k : Nat} {y : GV} (hr : RowO (fun k => k < R) W ks l xs) (ho : W.ownsRow B0 52 6 v l.length xs) (hR : R ≤ B0) {c : Nat} (hv : v = .slice (some ⟨g, 0, none⟩) l.length c)
    (hJ : Just g (0 + k * 6 + 1) 5 W W') (hy : y.at (fun _ => True) W' g (0 + k * 6 + 1)) : ObjV (fun _ => True) W' v ks (l.set k y) := by
  subst hv
  rcases ho.2 with ⟨hn, _⟩ | ⟨g', cap, cur, he, hb, hg, h1, h2, h3, h4⟩
  · cases hn
  cases he
  have hF : From (fun k => k < R) W W' := hJ.from (by omega)
  obtain ⟨cs', hw'⟩ := hJ.row _ _ (show Whole W g 52 cur from hg)
  have hlen := hr.len
  have hE := hr.els (b := g) (off := 0) fun j u hj => by
    have := ho.cells (g := g) rfl j u hj
    by_cases e : j = 0 <;> simpa [Addr.add, e] using this
  refine ⟨by rw [List.length_set]; exact hlen, .inr ⟨g, 0, c, by rw [List.length_set], by rw [List.length_set]; exact h1, h2, hw'.kind trivial, KeysAt.of fun i a ha => ?_, GV.els_of fun i a ha => ?_⟩⟩
  · exact (hJ.near _ (by omega)).trans (hE.1.get ha)
  · by_cases e : i = k
    · subst e
      rw [List.getElem?_set] at ha
      simp only [if_true] at ha
      split at ha
      · cases ha; rwa [show 0 + 1 + i * 6 = 0 + i * 6 + 1 by omega]
      · cases ha
    · rw [List.getElem?_set_ne (Ne.symm e)] at ha
      obtain ⟨L, O, c0, c1, c2, c3, c4, hL, hO⟩ := GV.at_iff.1 (GV.els_get hE.2 ha)
      have hn : ∀ d, d < 5 → W'.cell? ⟨g, 0 + 1 + i * 6 + d, none⟩ = W.cell? ⟨g, 0 + 1 + i * 6 + d, none⟩ := fun d hd => hJ.near _ (by omega)
      have n0 := hn 0 (by omega)
      rw [Nat.add_zero] at n0
      exact GV.at_iff.2 ⟨L, O, n0.trans c0, (hn 1 (by omega)).trans c1, (hn 2 (by omega)).trans c2, (hn 3 (by omega)).trans c3, (hn 4 (by omega)).trans c4, hL.keep hF (fun _ _ _ => trivial), hO.keep hF (fun _ _ _ => trivial)⟩
end Go.Proofs.YtbmfjchdmicdoaaDoor
