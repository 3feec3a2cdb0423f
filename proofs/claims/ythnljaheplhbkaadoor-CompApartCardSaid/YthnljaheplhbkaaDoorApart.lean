/- What is put at one path changes nothing at another one, unless one of both begins with the other. -/
import Derived.Test.YthnljaheplhbkaaDoorPTools
namespace Go.Proofs.YthnljaheplhbkaaDoor
open Go Go.RowKit

theorem begins_nil (p : List GStep) : begins p [] = true := by simp [begins, Lib.allEq]
theorem begins_cons (s t : GStep) (p q : List GStep) : begins (s :: p) (t :: q) = (sameStep s t && begins p q) := by
  unfold begins
  simp only [List.length_cons, List.take_succ_cons, Lib.allEq]
  by_cases h : q.length ≤ p.length
  · simp [h]
  · simp [h]
theorem bytes_ext {a b : ByteArray} (h : a.toList = b.toList) : a = b := by
  rw [ByteArray.toList_eq, ByteArray.toList_eq] at h
  exact ByteArray.ext (Array.toList_inj.1 h)
theorem sameStep_eq {s t : GStep} (h : sameStep s t = true) : s = t := by
  obtain ⟨sl, si, sk⟩ := s
  obtain ⟨tl, ti, tk⟩ := t
  simp only [sameStep, Bool.and_eq_true, beq_iff_eq] at h
  obtain ⟨rfl, rfl, h3⟩ := h
  rw [bytes_ext h3]
theorem there_key {key : ByteArray} {ks : List ByteArray} (h : there key ks = true) : ∃ k, ks[place key ks]? = some k ∧ k.toList = key.toList := by
  unfold there at h
  split at h
  · rename_i k hk
    exact ⟨k, hk, by simpa using h⟩
  · cases h
theorem step_refl (x : GStep) : sameStep x x = true := by simp [sameStep]
theorem inside_other {g h1 h2 z : GV} {s t : GStep} (hs : Clean s) (ht : Clean t) (hne : sameStep s t = false) (h1i : g.inside s = some h1) (h2i : g.inside t = some h2) : (g.setIn s z).inside t = some h2 := by
  rcases inside_cases h1i with ⟨sl, sk, k1, sik, sg⟩ | ⟨sl, sk, sth, sg⟩ <;> rcases inside_cases h2i with ⟨tl, tk, k2, tik, tg⟩ | ⟨tl, tk, tth, tg⟩
  · have hk : k1 ≠ k2 := by
      intro e
      subst e
      have : sameStep s t = true := by simp [sameStep, sl, tl, sik, tik, hs.2.1 sl, ht.2.1 tl]
      rw [this] at hne
      cases hne
    have e := (setIn_items (g := g) (y := z) sl).1
    have hl := (List.getElem?_eq_some_iff.1 tg).1
    have h := inside_list (g := g.setIn s z) (s := t) (k := k2) tl (by rw [setIn_kind]; exact tk) tik (by rw [e, List.length_set]; exact hl)
    rw [h, ← tg]
    simp only [e, sik, Int.toNat_natCast]
    rw [← List.getElem?_eq_getElem, List.getElem?_set_ne hk]
  · rw [sk] at tk; cases tk
  · rw [sk] at tk; cases tk
  · have hk : place s.key g.keys ≠ place t.key g.keys := by
      intro e
      obtain ⟨a, ha, hae⟩ := there_key sth
      obtain ⟨b, hb, hbe⟩ := there_key tth
      rw [e, hb] at ha
      cases ha
      have : sameStep s t = true := by simp [sameStep, sl, tl, hs.2.2 sl, ht.2.2 tl, ← hae, ← hbe]
      rw [this] at hne
      cases hne
    have e := (setIn_vals (g := g) (y := z) sl).2
    have hl := (List.getElem?_eq_some_iff.1 tg).1
    have h := inside_key (g := g.setIn s z) (s := t) tl (by rw [setIn_kind]; exact tk) (by rw [setIn_keys]; exact tth) (by rw [e, setIn_keys, List.length_set]; exact hl)
    rw [h, ← tg]
    simp only [e, setIn_keys]
    rw [← List.getElem?_eq_getElem, List.getElem?_set_ne hk]
theorem put_apart {x : GV} : ∀ (p q : List GStep) (g y h : GV), (∀ s ∈ p, Clean s) → (∀ s ∈ q, Clean s) → g.put x p = some y → g.get q = some h → begins p q = false → begins q p = false → y.get q = some h
  | [], q, g, y, h, _, _, _, _, _, hb => by rw [begins_nil] at hb; cases hb
  | s :: p, [], g, y, h, _, _, _, _, hb, _ => by rw [begins_nil] at hb; cases hb
  | s :: p, t :: q, g, y, h, hp, hq, e1, e2, b1, b2 => by
    obtain ⟨k, z, hi, hz, rfl⟩ := put_cons e1
    have e2' := e2
    simp only [GV.get] at e2'
    cases ht : g.inside t with
    | none => rw [ht] at e2'; cases e2'
    | some k2 =>
      rw [get_of ht] at e2
      rw [begins_cons] at b1 b2
      cases hst : sameStep s t with
      | true =>
        have e := sameStep_eq hst
        subst e
        rw [hi] at ht
        cases ht
        rw [get_of (inside_setIn hi)]
        rw [step_refl, Bool.true_and] at b1 b2
        exact put_apart p q k z h (fun a ha => hp a (by simp [ha])) (fun a ha => hq a (by simp [ha])) hz e2 b1 b2
      | false =>
        rw [get_of (inside_other (hp s (by simp)) (hq t (by simp)) hst hi ht)]
        exact e2
theorem begins_is {W : World} {A B : Option Addr} {c d : Nat} {p q : List GStep} (hp : Wy W A c p) (hq : Wy W B d q) :
    Calls Tryd.prog 45 #[.slice A p.length c, .slice B q.length d] W fun e w' => e = .returned (.bool (begins p q)) ∧ Below W.heap.size W w' :=
  path_Begins W.heap.size A B c d p q W hp.steps hq.steps hp.le hp.cap (Nat.le_trans hq.le hq.cap)
end Go.Proofs.YthnljaheplhbkaaDoor
