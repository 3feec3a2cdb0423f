/- Ways into a value, as plain mathematics; what a path is in memory. -/
import Derived.Test.YtbmfjchdmicdoaaDoorField
namespace Go.Proofs.YtbmfjchdmicdoaaDoor
open Go Go.RowKit

/-- A step. -/
structure GStep where
  list : Bool
  i : Int
  key : ByteArray

/-- What stands where a step leads. -/
def GV.inside (g : GV) (s : GStep) : Option GV :=
  if s.list then (if g.kind = 4 ∧ 0 ≤ s.i then g.items[s.i.toNat]? else none)
  else if g.kind = 5 ∧ there s.key g.keys = true then g.vals[place s.key g.keys]? else none
/-- The value with another one there. -/
def GV.setIn (g : GV) (s : GStep) (y : GV) : GV :=
  if s.list then .mk g.kind g.num g.str (g.items.set s.i.toNat y) g.keys g.vals else .mk g.kind g.num g.str g.items g.keys (g.vals.set (place s.key g.keys) y)
/-- What stands at a path. -/
def GV.get (g : GV) : List GStep → Option GV
  | [] => some g
  | s :: r => (g.inside s).bind fun h => h.get r
/-- The value with another one at a path. -/
def GV.put (g : GV) (x : GV) : List GStep → Option GV
  | [] => some x
  | s :: r => (g.inside s).bind fun h => (h.put x r).map (g.setIn s)

theorem put_none_iff (x : GV) : ∀ (p : List GStep) (g : GV), g.put x p = none ↔ g.get p = none
  | [], g => by simp [GV.put, GV.get]
  | s :: r, g => by
    simp only [GV.put, GV.get]
    cases h : g.inside s with
    | none => simp
    | some y => simpa using put_none_iff x r y
theorem put_some_of {x g h : GV} {p : List GStep} (e : g.get p = some h) : ∃ y, g.put x p = some y := by
  cases hp : g.put x p with
  | none => rw [(put_none_iff x p g).1 hp] at e; cases e
  | some y => exact ⟨y, rfl⟩

/-- Where a step into a list leads. -/
theorem inside_list {g : GV} {s : GStep} (hs : s.list = true) {k : Nat} (hk : g.kind = 4) (hi : s.i = k) (hl : k < g.items.length) : g.inside s = some g.items[k] := by
  simp [GV.inside, hs, hk, hi, hl]
theorem inside_key {g : GV} {s : GStep} (hs : s.list = false) (hk : g.kind = 5) (ht : there s.key g.keys = true) (hl : place s.key g.keys < g.vals.length) : g.inside s = some (g.vals[place s.key g.keys]) := by
  simp [GV.inside, hs, hk, ht, hl]
theorem inside_cases {g h : GV} {s : GStep} (hi : g.inside s = some h) :
    (s.list = true ∧ g.kind = 4 ∧ ∃ k : Nat, s.i = k ∧ g.items[k]? = some h) ∨ (s.list = false ∧ g.kind = 5 ∧ there s.key g.keys = true ∧ g.vals[place s.key g.keys]? = some h) := by
  unfold GV.inside at hi
  split at hi
  · rename_i hl
    split at hi
    · rename_i hc
      exact .inl ⟨hl, hc.1, s.i.toNat, by omega, hi⟩
    · cases hi
  · rename_i hl
    split at hi
    · rename_i hc
      exact .inr ⟨by simpa using hl, hc.1, hc.2, hi⟩
    · cases hi
theorem there_lt {key : ByteArray} {ks : List ByteArray} (h : there key ks = true) : place key ks < ks.length := by
  unfold there at h
  by_cases hl : place key ks < ks.length
  · exact hl
  · rw [List.getElem?_eq_none (by omega)] at h; simp at h

@[simp] theorem setIn_kind (g : GV) (s : GStep) (y : GV) : (g.setIn s y).kind = g.kind := by unfold GV.setIn; split <;> rfl
@[simp] theorem setIn_num (g : GV) (s : GStep) (y : GV) : (g.setIn s y).num = g.num := by unfold GV.setIn; split <;> rfl
@[simp] theorem setIn_str (g : GV) (s : GStep) (y : GV) : (g.setIn s y).str = g.str := by unfold GV.setIn; split <;> rfl
@[simp] theorem setIn_keys (g : GV) (s : GStep) (y : GV) : (g.setIn s y).keys = g.keys := by unfold GV.setIn; split <;> rfl
theorem setIn_items {g : GV} {s : GStep} {y : GV} (h : s.list = true) : (g.setIn s y).items = g.items.set s.i.toNat y ∧ (g.setIn s y).vals = g.vals := by unfold GV.setIn; simp [h, GV.items, GV.vals]
theorem setIn_vals {g : GV} {s : GStep} {y : GV} (h : s.list = false) : (g.setIn s y).items = g.items ∧ (g.setIn s y).vals = g.vals.set (place s.key g.keys) y := by unfold GV.setIn; simp [h, GV.items, GV.vals]

theorem weights_set : ∀ (l : List GV) (k : Nat) (y : GV), GV.weights (l.set k y) ≤ GV.weights l + y.weight
  | [], _, _ => by simp [GV.weights]
  | x :: r, 0, y => by simp [GV.weights]; omega
  | x :: r, k + 1, y => by
    have := weights_set r k y
    simp only [List.set_cons_succ, GV.weights]
    omega
theorem weight_set_mem : ∀ (l : List GV) (k : Nat) (h y : GV), l[k]? = some h → GV.weights (l.set k y) + h.weight = GV.weights l + y.weight
  | [], k, h, y, e => by simp at e
  | x :: r, 0, h, y, e => by simp at e; subst e; simp [GV.weights]; omega
  | x :: r, k + 1, h, y, e => by
    have := weight_set_mem r k h y (by simpa using e)
    simp only [List.set_cons_succ, GV.weights]
    omega
theorem setIn_weight {g h : GV} {s : GStep} (y : GV) (hi : g.inside s = some h) : (g.setIn s y).weight + h.weight = g.weight + y.weight := by
  cases g with
  | mk k n z l ks ov =>
    rcases inside_cases hi with ⟨hs, _, k', hk, hg⟩ | ⟨hs, _, _, hg⟩
    · have := weight_set_mem l k' h y hg
      simp only [GV.setIn, hs, if_true, GV.weight, hk, Int.toNat_natCast, GV.kind, GV.num, GV.str, GV.items, GV.keys, GV.vals]
      omega
    · have := weight_set_mem ov _ h y hg
      simp only [GV.setIn, hs, GV.weight, GV.kind, GV.num, GV.str, GV.items, GV.keys, GV.vals, Bool.false_eq_true, if_false]
      simp only [GV.keys] at this
      omega
theorem put_weight {x : GV} : ∀ (p : List GStep) (g y : GV), g.put x p = some y → y.weight ≤ g.weight + x.weight
  | [], g, y, e => by simp [GV.put] at e; subst e; omega
  | s :: r, g, y, e => by
    simp only [GV.put] at e
    cases hi : g.inside s with
    | none => rw [hi] at e; cases e
    | some h =>
      rw [hi] at e
      simp only [Option.bind_some] at e
      cases hp : h.put x r with
      | none => rw [hp] at e; cases e
      | some z =>
        rw [hp] at e
        simp only [Option.map_some, Option.some.injEq] at e
        subst e
        have h1 := put_weight r h z hp
        have h2 := setIn_weight z hi
        omega
theorem inside_weight {g h : GV} {s : GStep} (hi : g.inside s = some h) : h.weight ≤ g.weight := by
  have := setIn_weight h hi
  have h2 := setIn_weight (y := .mk 0 0 ⟨#[]⟩ [] [] []) hi
  cases g with
  | mk k n z l ks ov =>
    rcases inside_cases hi with ⟨hs, _, k', hk, hg⟩ | ⟨hs, _, _, hg⟩
    · have h3 := weight_set_mem l k' h (.mk 0 0 ⟨#[]⟩ [] [] []) hg
      simp only [GV.weight, GV.weights, List.map_nil, List.sum_nil] at h3 ⊢
      have : (⟨#[]⟩ : ByteArray).size = 0 := rfl
      omega
    · have h3 := weight_set_mem ov _ h (.mk 0 0 ⟨#[]⟩ [] [] []) hg
      simp only [GV.weight, GV.weights, List.map_nil, List.sum_nil] at h3 ⊢
      have : (⟨#[]⟩ : ByteArray).size = 0 := rfl
      omega
theorem get_weight : ∀ (p : List GStep) (g h : GV), g.get p = some h → h.weight ≤ g.weight
  | [], g, h, e => by simp [GV.get] at e; subst e; exact Nat.le_refl _
  | s :: r, g, h, e => by
    simp only [GV.get] at e
    cases hi : g.inside s with
    | none => rw [hi] at e; cases e
    | some y => rw [hi] at e; exact Nat.le_trans (get_weight r y h e) (inside_weight hi)

/-- The steps' cells: three a step. -/
def StepsAt (W : World) (a : Addr) (ps : List GStep) : Prop :=
  ∀ i s, ps[i]? = some s → W.cell? ⟨a.block, a.off + i * 3, none⟩ = some (.bool s.list) ∧ W.cell? ⟨a.block, a.off + i * 3 + 1, none⟩ = some (.int .i64 s.i) ∧ W.cell? ⟨a.block, a.off + i * 3 + 2, none⟩ = some (.string s.key)
/-- The slice is the path ps. -/
def Steps (hi : Nat) (W : World) (A : Option Addr) (ps : List GStep) : Prop :=
  ps ≠ [] → ∃ a : Addr, A = some a ∧ a.spot = none ∧ a.block < hi ∧ StepsAt W a ps
theorem Steps.keep {hi hi' : Nat} {W W' : World} {A : Option Addr} {ps : List GStep} (hb : Below hi W W') (hhi : hi ≤ hi') (h : Steps hi W A ps) : Steps hi' W' A ps := fun hn => by
  obtain ⟨a, rfl, hs, hl, hc⟩ := h hn
  have e : ∀ o, W'.cell? ⟨a.block, o, none⟩ = W.cell? ⟨a.block, o, none⟩ := fun o => hb.cell (p := ⟨a.block, o, none⟩) hl
  refine ⟨a, rfl, hs, by omega, fun i t ht => ?_⟩
  simp only [e]
  exact hc i t ht
theorem Steps.one {hi : Nat} {W : World} {A : Option Addr} {ps : List GStep} (h : Steps hi W A ps) {k : Nat} (hk : k < ps.length) :
    ∃ b o, A = some ⟨b, o, none⟩ ∧ b < hi ∧ W.cell? ⟨b, o + k * 3, none⟩ = some (.bool ps[k].list) ∧ W.cell? ⟨b, o + k * 3 + 1, none⟩ = some (.int .i64 ps[k].i) ∧ W.cell? ⟨b, o + k * 3 + 2, none⟩ = some (.string ps[k].key) := by
  obtain ⟨⟨b, o, sp⟩, rfl, hs, hl, hc⟩ := h (by intro e; rw [e] at hk; simp at hk)
  simp only at hs
  subst hs
  exact ⟨b, o, rfl, hl, hc k ps[k] (List.getElem?_eq_getElem hk)⟩
end Go.Proofs.YtbmfjchdmicdoaaDoor
