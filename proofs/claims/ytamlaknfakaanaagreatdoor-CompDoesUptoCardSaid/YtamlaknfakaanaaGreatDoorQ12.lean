/- Texts in one: KeysAt, Walk, WalkT. -/
import Derived.Test.YtamlaknfakaanaaGreatDoorQ11
import Derived.Sort.Walk0
import Derived.Test.YtamlaknfakaanaaGreatDoorQ6
import Derived.Test.YtamlaknfakaanaaGreatDoorQ9
import Derived.Test.YtamlaknfakaanaaGreatDoorQ10
import Derived.Test.YtamlaknfakaanaaGreatDoorQ7
import Derived.BigQuiet
import Derived.Deep.QuietTactic
namespace Go.Proofs.YtamlaknfakaanaaGreatDoor
open Go Go.RowKit Go.Sort
theorem bl_trans {x y z : List UInt8} (h1 : Op.bytesLess x y = true) (h2 : Op.bytesLess y z = true) : Op.bytesLess x z = true := by
  rw [bytesLess_eq, decide_eq_true_eq] at h1 h2 ⊢
  exact List.lt_trans h1 h2
theorem bl_asymm {x y : List UInt8} (h1 : Op.bytesLess x y = true) : Op.bytesLess y x = false ∧ (x == y) = false ∧ (y == x) = false := by
  have h2 := leq_less y x
  rw [h1] at h2
  have h3 : Op.bytesLess y x = false ∧ (y == x) = false := by simpa using h2
  refine ⟨h3.1, ?_, h3.2⟩
  have : ¬ y = x := by simpa using h3.2
  simpa using fun e => this e.symm
theorem keys_at (key : ByteArray) {ks : List ByteArray} (h : KeysOk ks) (i : Nat) (x : ByteArray) (hx : ks[i]? = some x) :
    (i < place key ks ∧ Op.bytesLess x.toList key.toList = true ∧ (x.toList == key.toList) = false ∧ ((i : Int) == (place key ks : Int)) = false ∧ (i == place key ks) = false) ∨
    (i = place key ks ∧ Op.bytesLess x.toList key.toList = false ∧ (x.toList == key.toList) = there key ks) ∨
    (¬ i < place key ks ∧ Op.bytesLess x.toList key.toList = false ∧ (x.toList == key.toList) = false ∧ ((i : Int) == (place key ks : Int)) = false ∧ (i == place key ks) = false) := by
  have hlen : ∀ j y, ks[j]? = some y → j < ks.length := fun j y hy => (List.getElem?_eq_some_iff.1 hy).1
  rcases Nat.lt_trichotomy i (place key ks) with hi | hi | hi
  · have hl := place_lt key ks i x hx hi
    exact .inl ⟨hi, hl, (bl_asymm hl).2.1, by simp; omega, by simp; omega⟩
  · subst hi
    exact .inr (.inl ⟨rfl, place_stop key ks x hx, by unfold there; rw [hx]⟩)
  · have habove : ∀ j y, place key ks < j → ks[j]? = some y → Op.bytesLess key.toList y.toList = true := by
      intro j
      induction j with
      | zero => intro y hj; omega
      | succ j ih =>
        intro y hj hy
        have hjl := hlen _ _ hy
        obtain ⟨z, hz⟩ : ∃ z, ks[j]? = some z := ⟨ks[j]'(by omega), List.getElem?_eq_getElem (by omega)⟩
        have hzy : Op.bytesLess z.toList y.toList = true := (h (j + 1) y hjl hy).2 j z rfl hz
        by_cases e : j = place key ks
        · have hst : Op.bytesLess z.toList key.toList = false := place_stop key ks z (by rw [← e]; exact hz)
          have h2 := leq_less key.toList z.toList
          rw [hst] at h2
          have h3 : Op.bytesLess key.toList z.toList = true ∨ key.toList = z.toList := by simpa using h2
          rcases h3 with h3 | h3
          · exact bl_trans h3 hzy
          · rw [h3]; exact hzy
        · exact bl_trans (ih z (by omega) hz) hzy
    have ha := bl_asymm (habove i x hi hx)
    exact .inr (.inr ⟨by omega, ha.1, ha.2.2, by simp; omega, by simp; omega⟩)
end Go.Proofs.YtamlaknfakaanaaGreatDoor
namespace Go.Proofs.YtamlaknfakaanaaGreatDoor
open Go Go.RowKit
theorem sound_parts {g : GV} (h : g.Sound) : SelfOk g ∧ (∀ x ∈ g.items, x.Sound) ∧ ∀ x ∈ g.vals, x.Sound := by
  cases g with
  | mk k n s l ks ov =>
    simp only [GV.Sound] at h
    exact ⟨h.1, (sounds_iff l).1 h.2.1, (sounds_iff ov).1 h.2.2⟩
end Go.Proofs.YtamlaknfakaanaaGreatDoor
namespace Go.Proofs.YtamlaknfakaanaaGreatDoor
open Go Go.RowKit
theorem lst_at {ok : Nat → Prop} {W : World} {b o n c k : Nat} {l : List GV} {x : GV} (h : LstV ok W (.slice (some ⟨b, o, none⟩) n c) l) (hk : l[k]? = some x) : ∃ AL AO cL cO, Spot ok W b (o + k * 5) x AL AO cL cO := by
  rcases h with ⟨rfl, _⟩ | ⟨b', o', c', he, _, _, _, hE⟩
  · simp at hk
  · cases he
    exact (GV.els_get hE hk).spot
theorem obj_at {ok : Nat → Prop} {W : World} {b o n c k : Nat} {ks : List ByteArray} {l : List GV} {x : GV} (h : ObjV ok W (.slice (some ⟨b, o, none⟩) n c) ks l) (hk : l[k]? = some x) : ∃ AL AO cL cO, Spot ok W b (o + k * 6 + 1) x AL AO cL cO := by
  rcases h.2 with ⟨rfl, _⟩ | ⟨b', o', c', he, _, _, _, _, hE⟩
  · simp at hk
  · cases he
    have := GV.els_get hE hk
    rw [show o + 1 + k * 6 = o + k * 6 + 1 by omega] at this
    exact this.spot
end Go.Proofs.YtamlaknfakaanaaGreatDoor

