/- Walk: a path that leads into a value. -/
import Derived.Test.YtbmfjchdmicdoaaDoorGet
import Derived.Test.YtbmfjchdmicdoaaDoorKeysAt
import Derived.Test.YtbmfjchdmicdoaaDoorPBegins
import Derived.Test.YtbmfjchdmicdoaaDoorLoosen
import Derived.Test.YtbmfjchdmicdoaaDoorOpenP
import Derived.BigQuiet
import Derived.Deep.QuietTactic
namespace Go.Proofs.YtbmfjchdmicdoaaDoor
open Go Go.RowKit

theorem get_snoc {s : GStep} {h' : GV} : ∀ (ps : List GStep) (g h : GV), g.get ps = some h → h.inside s = some h' → g.get (ps ++ [s]) = some h'
  | [], g, h, e, hi => by simp [GV.get] at e; subst e; simp [GV.get, hi]
  | t :: r, g, h, e, hi => by
    simp only [GV.get] at e
    cases ht : g.inside t with
    | none => rw [ht] at e; cases e
    | some y =>
      rw [ht] at e
      simp only [List.cons_append, GV.get, ht, Option.bind_some]
      exact get_snoc r y h e hi
def cellsP (ps : List GStep) : List Value := ps.flatMap encG
theorem cellsP_snoc (ps : List GStep) (s : GStep) : cellsP (ps ++ [s]) = cellsP ps ++ encG s := by simp [cellsP]
theorem cellsP_get : ∀ (ps : List GStep) (i : Nat) (s : GStep), ps[i]? = some s → (cellsP ps)[i * 3]? = some (.bool s.list) ∧ (cellsP ps)[i * 3 + 1]? = some (.int .i64 s.i) ∧ (cellsP ps)[i * 3 + 2]? = some (.string s.key)
  | [], i, s, h => by simp at h
  | x :: r, 0, s, h => by simp at h; subst h; simp [cellsP, encG]
  | x :: r, i + 1, s, h => by
    have := cellsP_get r i s (by simpa using h)
    have e : cellsP (x :: r) = encG x ++ cellsP r := by simp [cellsP]
    rw [e, show (i + 1) * 3 = i * 3 + 3 by omega, show i * 3 + 3 + 1 = i * 3 + 1 + 3 by omega, show i * 3 + 3 + 2 = i * 3 + 2 + 3 by omega]
    simpa [encG] using this
theorem own_steps {W : World} {base : Nat} {v : Value} {ps : List GStep} (h : W.ownsRow base 57 3 v ps.length (cellsP ps)) : ∃ A c, v = .slice A ps.length c ∧ ps.length ≤ c ∧ c ≤ maxLen ∧ Steps W.heap.size W A ps := by
  rcases h.2 with ⟨rfl, hn⟩ | ⟨g, cap, cur, rfl, hb, hg, h1, h2, h3, h4⟩
  · exact ⟨none, 0, by rw [hn], by omega, by decide, fun hne => absurd (List.length_eq_zero_iff.1 hn) hne⟩
  · refine ⟨_, cap, rfl, h1, h2, fun _ => ⟨_, rfl, rfl, (Array.getElem?_eq_some_iff.1 hg).1, fun i s hs => ?_⟩⟩
    obtain ⟨e0, e1, e2⟩ := cellsP_get ps i s hs
    have hc := fun j u (hj : (cellsP ps)[j]? = some u) => h.cells (g := g) rfl j u hj
    simp only [addr_add0] at hc
    exact ⟨hc _ _ e0, hc _ _ e1, hc _ _ e2⟩
theorem sound_parts {g : GV} (h : g.Sound) : SelfOk g ∧ (∀ x ∈ g.items, x.Sound) ∧ ∀ x ∈ g.vals, x.Sound := by
  cases g with
  | mk k n s l ks ov =>
    simp only [GV.Sound] at h
    exact ⟨h.1, (sounds_iff l).1 h.2.1, (sounds_iff ov).1 h.2.2⟩
theorem kind_items {g : GV} (h : g.Sound) (hn : g.items ≠ []) : g.kind = 4 := ((sound_parts h).1.2.2.2.1).resolve_right hn
theorem kind_vals {g : GV} (h : g.Sound) (hn : g.vals ≠ []) : g.kind = 5 ∧ KeysOk g.keys := by
  rcases (sound_parts h).1.2.2.2.2 with h | h
  · exact h
  · exact absurd h.2 hn

/-- A step as Walk makes it. -/
def Clean (s : GStep) : Prop := s.key.size ≤ 1000000000 ∧ (s.list = true → s.key.toList = []) ∧ (s.list = false → s.i = 0)
/-- Between the rounds. -/
structure WG (w : World) (h : GV) (BL BO : Option Addr) (dL dO : Nat) (ps : List GStep) (v : Value) (W : World) : Prop where
  below : Below w.heap.size w W
  box : Whole W w.heap.size 29 #[.int .u8 h.kind, .int .i64 h.num, .string h.str, .slice BL h.items.length dL, .slice BO h.vals.length dO]
  lst : LstV (fun k => k < w.heap.size) W (.slice BL h.items.length dL) h.items
  obj : ObjV (fun k => k < w.heap.size) W (.slice BO h.vals.length dO) h.keys h.vals
  own : W.ownsRow (w.heap.size + 1) 57 3 v ps.length (cellsP ps)
def WalkRel (w : World) (g : GV) (n : Nat) (out i : Value) (wr : World) : Prop :=
  ∃ (j : Nat) (h : GV) (BL BO : Option Addr) (dL dO : Nat) (ps : List GStep), i = .int .i64 j ∧ j ≤ n ∧ j ≤ 8 ∧ ps.length ≤ j ∧ g.get ps = some h ∧ h.Sound ∧ (∀ s ∈ ps, Clean s) ∧ WG w h BL BO dL dO ps out wr
def WalkPost (g : GV) (w : World) (e : Ending) (w' : World) : Prop :=
  ∃ (A : Option Addr) (c : Nat) (ps : List GStep) (h : GV), e = .returned (.slice A ps.length c) ∧ ps.length ≤ c ∧ c ≤ maxLen ∧ ps.length ≤ 8 ∧ Steps w'.heap.size w' A ps ∧ g.get ps = some h ∧ (∀ s ∈ ps, Clean s) ∧ Below w.heap.size w w'
theorem WG.later {w W W' : World} {h : GV} {BL BO : Option Addr} {dL dO : Nat} {ps : List GStep} {v : Value} (q : WG w h BL BO dL dO ps v W) (hb : Below W.heap.size W W') : WG w h BL BO dL dO ps v W' :=
  ⟨q.below.trans (hb.mono q.below.size), q.box.below hb q.box.lt, q.lst.keep (From.of_below hb) (fun _ h _ => h), q.obj.keep (From.of_below hb) (fun _ h _ => h), own_below q.own hb⟩
theorem below_draws (W : World) (n : Nat) : Below W.heap.size W (W.drewN n) := ⟨rfl, rfl, rfl, Nat.le_refl _, fun _ _ => rfl⟩
end Go.Proofs.YtbmfjchdmicdoaaDoor
