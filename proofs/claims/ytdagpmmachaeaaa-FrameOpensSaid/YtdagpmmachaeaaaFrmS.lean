/- Frames: what Scan answers, plain; a row of lists of bytes of one's own; the document's Scan. -/
import Derived.Test.YtdagpmmachaeaaaFrmK
namespace Go.Proofs.Ytdagpmmachaeaaa
open Go Go.RowKit
set_option linter.unusedVariables false
set_option linter.unusedSimpArgs false

def scanL : Nat → List Int → List (List Int)
  | 0, _ => []
  | f + 1, bs => if okF bs then heldF bs :: scanL f (bs.drop (8 + numN bs)) else []
def scanE : Nat → List Int → Nat
  | 0, _ => 0
  | f + 1, bs => if okF bs then 8 + numN bs + scanE f (bs.drop (8 + numN bs)) else 0
/-- Between two frames. -/
structure At (bs : List Int) (l : List (List Int)) (e : Nat) : Prop where
  le : e ≤ bs.length
  rest : ∃ f, bs.length - e ≤ f ∧ l ++ scanL f (bs.drop e) = scanL bs.length bs ∧ e + scanE f (bs.drop e) = scanE bs.length bs
theorem At.start (bs : List Int) : At bs [] 0 := ⟨Nat.zero_le _, bs.length, by omega, by simp, by simp⟩
theorem At.next {bs : List Int} {l : List (List Int)} {e : Nat} (h : At bs l e) (hok : okF (bs.drop e) = true) : At bs (l ++ [heldF (bs.drop e)]) (e + (8 + numN (bs.drop e))) := by
  obtain ⟨hle, f, hf, h1, h2⟩ := h
  have hi := okF_is hok
  rw [List.length_drop] at hi
  cases f with
  | zero => omega
  | succ f =>
    simp only [scanL, scanE, if_pos hok, List.drop_drop] at h1 h2
    refine ⟨by omega, f, by omega, ?_, by omega⟩
    rw [List.append_assoc]; exact h1
theorem At.stop {bs : List Int} {l : List (List Int)} {e : Nat} (h : At bs l e) (hok : okF (bs.drop e) = false) : l = scanL bs.length bs ∧ e = scanE bs.length bs := by
  obtain ⟨hle, f, hf, h1, h2⟩ := h
  have z1 : scanL f (bs.drop e) = [] := by cases f with | zero => rfl | succ f => simp [scanL, hok]
  have z2 : scanE f (bs.drop e) = 0 := by cases f with | zero => rfl | succ f => simp [scanE, hok]
  rw [z1, List.append_nil] at h1
  rw [z2] at h2
  exact ⟨h1, h2⟩
/-- A row of lists of bytes, all of them new memory. -/
structure HeldR (base : Nat) (W : World) (v : Value) (l : List (List Int)) (xs : List Value) : Prop where
  own : W.ownsRow base 22 1 v l.length xs
  each : ∀ (i : Nat) (bs : List Int), l[i]? = some bs → ∃ B d, xs[i]? = some (Value.slice B bs.length d) ∧ NewB base W B bs
def Held (base : Nat) (W : World) (v : Value) (l : List (List Int)) : Prop := ∃ xs, HeldR base W v l xs
theorem Held.nil (base : Nat) (W : World) : Held base W (.slice none 0 0) [] := ⟨[], World.ownsRow_nil _ _ _ _, fun i bs h => by simp at h⟩
theorem HeldR.keep {base : Nat} {W W' : World} {v : Value} {l : List (List Int)} {xs : List Value} (h : HeldR base W v l xs) (hb : Below W.heap.size W W') : HeldR base W' v l xs := by
  refine ⟨⟨h.own.1, h.own.2.imp id ?_⟩, fun i bs hi => ?_⟩
  · rintro ⟨g, cap, cur, rfl, hg, hw, r⟩
    exact ⟨g, cap, cur, rfl, hg, Eq.trans (hb.block g (Array.getElem?_eq_some_iff.1 hw).1) hw, r⟩
  · obtain ⟨B, d, e, hn⟩ := h.each i bs hi
    exact ⟨B, d, e, hn.keep hb (Nat.le_refl _)⟩
theorem Held.keep {base : Nat} {W W' : World} {v : Value} {l : List (List Int)} (h : Held base W v l) (hb : Below W.heap.size W W') : Held base W' v l := h.imp fun _ h => h.keep hb
/-- A row of another type grows: bytes stay. -/
theorem NewB.grown {base : Nat} {W W' : World} {B : Option Addr} {bs : List Int} {v : Value} {n : Nat} {xs : List Value} (h : NewB base W B bs) (hg : W.grownBy W' v.ownBlock) (ho : W.ownsRow base 22 1 v n xs) : NewB base W' B bs := by
  refine h.imp id ?_
  rintro ⟨g, rfl, hb, cur, hw, hc⟩
  refine ⟨g, rfl, hb, cur, hw.grown hg (fun e => ?_), hc⟩
  rcases ho.2 with ⟨rfl, _⟩ | ⟨g', cap, cur', rfl, _, hw', _⟩
  · cases e
  · simp only [Value.ownBlock, Option.some.injEq] at e
    subst e
    have := hw.symm.trans hw'
    simp at this
theorem Held.form {base : Nat} {W : World} {v : Value} {l : List (List Int)} (h : Held base W v l) : ∃ A c, v = .slice A l.length c := by
  obtain ⟨xs, ho, _⟩ := h
  rcases ho.2 with ⟨rfl, h0⟩ | ⟨g, cap, cur, rfl, _⟩
  · exact ⟨none, 0, by rw [h0]⟩
  · exact ⟨_, _, rfl⟩
/-- One list more. -/
theorem HeldR.snoc {base : Nat} {W W2 : World} {v v' : Value} {A : Option Addr} {d n : Nat} {l : List (List Int)} {bs : List Int} {xs : List Value} (h : HeldR base W v l xs) (hn : NewB base W A bs) (hbn : n = bs.length)
    (hown : W2.ownsRow base 22 1 v' (l.length + 1) (xs ++ [Value.slice A n d])) (hg : W.grownBy W2 v.ownBlock) : Held base W2 v' (l ++ [bs]) := by
  subst hbn
  have hl : xs.length = l.length := by have := h.own.1; omega
  refine ⟨_, by rw [List.length_append]; exact hown, fun i ds hi => ?_⟩
  rcases Nat.lt_or_ge i l.length with hlt | hge
  · rw [List.getElem?_append_left hlt] at hi
    obtain ⟨C, c, e, hc⟩ := h.each i ds hi
    exact ⟨C, c, by rw [List.getElem?_append_left (by omega)]; exact e, hc.grown hg h.own⟩
  · rw [List.getElem?_append_right hge] at hi
    have h0 : i - l.length = 0 := by
      rcases Nat.eq_zero_or_pos (i - l.length) with h0 | h0
      · exact h0
      · rw [List.getElem?_eq_none (by simp; omega)] at hi; cases hi
    rw [h0] at hi; cases hi
    exact ⟨A, d, by rw [List.getElem?_append_right (by omega), hl, h0]; rfl, hn.grown hg h.own⟩
end Go.Proofs.Ytdagpmmachaeaaa
