/- What the end of the document's own Put asks of a copy's rows. -/
import Derived.Test.YtbmfjchdmicdoaaDoorPut
import Derived.Test.YtbmfjchdmicdoaaDoorRefCR
namespace Go.Proofs.YtbmfjchdmicdoaaDoor
open Go Go.RowKit

/-- A list of a copy in which one element is another one. -/
theorem own_setL2 {ok ok' : Nat → Prop} {B0 : Nat} {W W' : World} {l : List GV} {xs : List Value} {g k c : Nat} {y : GV} (hr : RowL ok W l xs) (ho : W.ownsRow B0 29 5 (.slice (some ⟨g, 0, none⟩) l.length c) l.length xs) (hne : ¬ ok g) (hok : ∀ k, ok k → ok' k) (hg' : ok' g)
    (hJ : Just g (k * 5) 5 W W') (hy : y.at ok' W' g (k * 5)) : LstV ok' W' (.slice (some ⟨g, 0, none⟩) l.length c) (l.set k y) := by
  rcases ho.2 with ⟨hn, _⟩ | ⟨g', cap, cur, he, hb, hg, h1, h2, h3, h4⟩
  · cases hn
  cases he
  have hF : From ok W W' := hJ.from hne
  obtain ⟨cs', hw'⟩ := hJ.row _ _ (show Whole W g 29 cur from hg)
  have hE : GV.els ok W g 5 0 l := hr.els fun j u hj => by
    have := ho.cells (g := g) rfl j u hj
    rwa [addr_add0] at this
  refine .inr ⟨g, 0, c, by rw [List.length_set], by rw [List.length_set]; exact h1, h2, hw'.kind hg', GV.els_of fun i a ha => ?_⟩
  rw [Nat.zero_add]
  by_cases e : i = k
  · subst e
    rw [List.getElem?_set] at ha
    simp only [if_true] at ha
    split at ha
    · cases ha; exact hy
    · cases ha
  · rw [List.getElem?_set_ne (Ne.symm e)] at ha
    have hat := GV.els_get hE ha
    rw [Nat.zero_add] at hat
    obtain ⟨L, O, c0, c1, c2, c3, c4, hL, hO⟩ := GV.at_iff.1 hat
    have hn : ∀ d, d < 5 → W'.cell? ⟨g, i * 5 + d, none⟩ = W.cell? ⟨g, i * 5 + d, none⟩ := fun d hd => hJ.near _ (by omega)
    have n0 := hn 0 (by omega)
    rw [Nat.add_zero] at n0
    exact GV.at_iff.2 ⟨L, O, n0.trans c0, (hn 1 (by omega)).trans c1, (hn 2 (by omega)).trans c2, (hn 3 (by omega)).trans c3, (hn 4 (by omega)).trans c4, hL.keep hF (fun k h _ => hok k h), hO.keep hF (fun k h _ => hok k h)⟩
theorem own_setO2 {ok ok' : Nat → Prop} {B0 : Nat} {W W' : World} {ks : List ByteArray} {l : List GV} {xs : List Value} {g k c : Nat} {y : GV} (hr : RowO ok W ks l xs) (ho : W.ownsRow B0 52 6 (.slice (some ⟨g, 0, none⟩) l.length c) l.length xs) (hne : ¬ ok g) (hok : ∀ k, ok k → ok' k) (hg' : ok' g)
    (hJ : Just g (k * 6 + 1) 5 W W') (hy : y.at ok' W' g (k * 6 + 1)) : ObjV ok' W' (.slice (some ⟨g, 0, none⟩) l.length c) ks (l.set k y) := by
  rcases ho.2 with ⟨hn, _⟩ | ⟨g', cap, cur, he, hb, hg, h1, h2, h3, h4⟩
  · cases hn
  cases he
  have hF : From ok W W' := hJ.from hne
  obtain ⟨cs', hw'⟩ := hJ.row _ _ (show Whole W g 52 cur from hg)
  have hlen := hr.len
  have hE := hr.els (b := g) (off := 0) fun j u hj => by
    have := ho.cells (g := g) rfl j u hj
    rwa [addr_add0] at this
  refine ⟨by rw [List.length_set]; exact hlen, .inr ⟨g, 0, c, by rw [List.length_set], by rw [List.length_set]; exact h1, h2, hw'.kind hg', KeysAt.of fun i a ha => ?_, GV.els_of fun i a ha => ?_⟩⟩
  · exact (hJ.near _ (by omega)).trans (hE.1.get ha)
  · by_cases e : i = k
    · subst e
      rw [List.getElem?_set] at ha
      simp only [if_true] at ha
      split at ha
      · cases ha; rwa [show 0 + 1 + i * 6 = i * 6 + 1 by omega]
      · cases ha
    · rw [List.getElem?_set_ne (Ne.symm e)] at ha
      obtain ⟨L, O, c0, c1, c2, c3, c4, hL, hO⟩ := GV.at_iff.1 (GV.els_get hE.2 ha)
      have hn : ∀ d, d < 5 → W'.cell? ⟨g, 0 + 1 + i * 6 + d, none⟩ = W.cell? ⟨g, 0 + 1 + i * 6 + d, none⟩ := fun d hd => hJ.near _ (by omega)
      have n0 := hn 0 (by omega)
      rw [Nat.add_zero] at n0
      exact GV.at_iff.2 ⟨L, O, n0.trans c0, (hn 1 (by omega)).trans c1, (hn 2 (by omega)).trans c2, (hn 3 (by omega)).trans c3, (hn 4 (by omega)).trans c4, hL.keep hF (fun k h _ => hok k h), hO.keep hF (fun k h _ => hok k h)⟩
theorem put_there2 {ok ok' : Nat → Prop} {b off : Nat} {x : GV} {CL CO : Option Addr} {eL eO : Nat} {W : World} {z0 z1 z2 z3 z4 : Value} (c0 : W.cell? ⟨b, off, none⟩ = some z0) (c1 : W.cell? ⟨b, off + 1, none⟩ = some z1) (c2 : W.cell? ⟨b, off + 2, none⟩ = some z2) (c3 : W.cell? ⟨b, off + 3, none⟩ = some z3) (c4 : W.cell? ⟨b, off + 4, none⟩ = some z4)
    (hb : ¬ ok b) (hok : ∀ k, ok k → ok' k) (hL : LstV ok W (.slice CL x.items.length eL) x.items) (hO : ObjV ok W (.slice CO x.vals.length eO) x.keys x.vals) :
    x.at ok' (((((W.setCell ⟨b, off, none⟩ (.int .u8 x.kind)).setCell ⟨b, off + 1, none⟩ (.int .i64 x.num)).setCell ⟨b, off + 2, none⟩ (.string x.str)).setCell ⟨b, off + 3, none⟩ (.slice CL x.items.length eL)).setCell ⟨b, off + 4, none⟩ (.slice CO x.vals.length eO)) b off := by
  have hJ := just_put5 (b := b) (off := off) W (.int .u8 x.kind) (.int .i64 x.num) (.string x.str) (.slice CL x.items.length eL) (.slice CO x.vals.length eO)
  have hF : From ok W _ := hJ.from hb
  refine GV.at_iff.2 ⟨.slice CL x.items.length eL, .slice CO x.vals.length eO, ?_, ?_, ?_, ?_, ?_, hL.keep hF (fun k h _ => hok k h), hO.keep hF (fun k h _ => hok k h)⟩
  · rw [cell_far _ (by omega), cell_far _ (by omega), cell_far _ (by omega), cell_far _ (by omega)]
    exact World.cell?_setCell_same' _ _ _ (by rw [c0]; rfl)
  · rw [cell_far _ (by omega), cell_far _ (by omega), cell_far _ (by omega)]
    exact World.cell?_setCell_same' _ _ _ (by rw [cell_far _ (by omega), c1]; rfl)
  · rw [cell_far _ (by omega), cell_far _ (by omega)]
    exact World.cell?_setCell_same' _ _ _ (by rw [cell_far _ (by omega), cell_far _ (by omega), c2]; rfl)
  · rw [cell_far _ (by omega)]
    exact World.cell?_setCell_same' _ _ _ (by rw [cell_far _ (by omega), cell_far _ (by omega), cell_far _ (by omega), c3]; rfl)
  · exact World.cell?_setCell_same' _ _ _ (by rw [cell_far _ (by omega), cell_far _ (by omega), cell_far _ (by omega), cell_far _ (by omega), c4]; rfl)
theorem rows_atL {lo : Nat} {l : List GV} {ks : List ByteArray} {ov : List GV} {W : World} {AL : Option Addr} {cL : Nat} {vO : Value} {xs ys : List Value} (h : CopyRows lo l ks ov W (.slice AL l.length cL) vO xs ys) {k : Nat} (hk : k < l.length) :
    ∃ eb cs, AL = some ⟨eb, 0, none⟩ ∧ lo ≤ eb ∧ Whole W eb 29 cs ∧ l.length ≤ cL ∧ cL ≤ maxLen ∧ ∃ u0 u1 u2 u3 u4, W.cell? ⟨eb, k * 5, none⟩ = some u0 ∧ W.cell? ⟨eb, k * 5 + 1, none⟩ = some u1 ∧ W.cell? ⟨eb, k * 5 + 2, none⟩ = some u2 ∧ W.cell? ⟨eb, k * 5 + 3, none⟩ = some u3 ∧ W.cell? ⟨eb, k * 5 + 4, none⟩ = some u4 := by
  rcases h.ownL.2 with ⟨_, hn⟩ | ⟨g, cap, cur, he, hb, hg, h1, h2, h3, h4⟩
  · omega
  · cases he
    have hE := h.rowL.els (b := g) (off := 0) fun j u hj => by
      have := h.ownL.cells (g := g) rfl j u hj
      rwa [addr_add0] at this
    have hat := GV.els_get hE (List.getElem?_eq_getElem hk)
    rw [Nat.zero_add] at hat
    obtain ⟨L, O, c0, c1, c2, c3, c4, _⟩ := GV.at_iff.1 hat
    exact ⟨g, cur, rfl, hb, hg, h1, h2, _, _, _, _, _, c0, c1, c2, c3, c4⟩
theorem rows_atO {lo : Nat} {l : List GV} {ks : List ByteArray} {ov : List GV} {W : World} {AO : Option Addr} {cO : Nat} {vL : Value} {xs ys : List Value} (h : CopyRows lo l ks ov W vL (.slice AO ov.length cO) xs ys) {k : Nat} (hk : k < ov.length) :
    ∃ eb cs, AO = some ⟨eb, 0, none⟩ ∧ lo ≤ eb ∧ Whole W eb 52 cs ∧ ov.length ≤ cO ∧ cO ≤ maxLen ∧ ∃ u0 u1 u2 u3 u4, W.cell? ⟨eb, k * 6 + 1, none⟩ = some u0 ∧ W.cell? ⟨eb, k * 6 + 1 + 1, none⟩ = some u1 ∧ W.cell? ⟨eb, k * 6 + 1 + 2, none⟩ = some u2 ∧ W.cell? ⟨eb, k * 6 + 1 + 3, none⟩ = some u3 ∧ W.cell? ⟨eb, k * 6 + 1 + 4, none⟩ = some u4 := by
  rcases h.ownO.2 with ⟨_, hn⟩ | ⟨g, cap, cur, he, hb, hg, h1, h2, h3, h4⟩
  · omega
  · cases he
    have hE := h.rowO.els (b := g) (off := 0) fun j u hj => by
      have := h.ownO.cells (g := g) rfl j u hj
      rwa [addr_add0] at this
    have hat := GV.els_get hE.2 (List.getElem?_eq_getElem hk)
    rw [show 0 + 1 + k * 6 = k * 6 + 1 by omega] at hat
    obtain ⟨L, O, c0, c1, c2, c3, c4, _⟩ := GV.at_iff.1 hat
    exact ⟨g, cur, rfl, hb, hg, h1, h2, _, _, _, _, _, c0, c1, c2, c3, c4⟩

end Go.Proofs.YtbmfjchdmicdoaaDoor
