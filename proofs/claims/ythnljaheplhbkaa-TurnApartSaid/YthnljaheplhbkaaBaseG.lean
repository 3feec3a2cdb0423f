/- Texts in one: PathG, Inside, Look, Get, GetF. -/
import Derived.Test.YthnljaheplhbkaaField
import Derived.Test.YthnljaheplhbkaaBaseA
import Derived.Shelf.Abstract
import Derived.Test.YthnljaheplhbkaaBaseC
/- Ways into a value, as plain mathematics; what a path is in memory. -/
namespace Go.Proofs.Ythnljaheplhbkaa
open Go Go.RowKit

/-- A step. -/
structure GStep where
  list : Bool
  i : Int
  key : ByteArray

/-- What stands where a step leads. -/
def GV.inside (g : GV) (s : GStep) : Option GV :=
  if s.list then (if g.kind = 4 ∧ 0 ≤ s.i then g.items[s.i.toNat]? else none)
  else if g.kind = 5 ∧ there s.key g.keys = true then g.vals[place s.key g.keys]? else none
/-- The value with another one there. -/
def GV.setIn (g : GV) (s : GStep) (y : GV) : GV :=
  if s.list then .mk g.kind g.num g.str (g.items.set s.i.toNat y) g.keys g.vals else .mk g.kind g.num g.str g.items g.keys (g.vals.set (place s.key g.keys) y)
/-- What stands at a path. -/
def GV.get (g : GV) : List GStep → Option GV
  | [] => some g
  | s :: r => (g.inside s).bind fun h => h.get r
/-- The value with another one at a path. -/
def GV.put (g : GV) (x : GV) : List GStep → Option GV
  | [] => some x
  | s :: r => (g.inside s).bind fun h => (h.put x r).map (g.setIn s)

theorem put_none_iff (x : GV) : ∀ (p : List GStep) (g : GV), g.put x p = none ↔ g.get p = none
  | [], g => by simp [GV.put, GV.get]
  | s :: r, g => by
    simp only [GV.put, GV.get]
    cases h : g.inside s with
    | none => simp
    | some y => simpa using put_none_iff x r y
theorem put_some_of {x g h : GV} {p : List GStep} (e : g.get p = some h) : ∃ y, g.put x p = some y := by
  cases hp : g.put x p with
  | none => rw [(put_none_iff x p g).1 hp] at e; cases e
  | some y => exact ⟨y, rfl⟩

/-- Where a step into a list leads. -/
theorem inside_list {g : GV} {s : GStep} (hs : s.list = true) {k : Nat} (hk : g.kind = 4) (hi : s.i = k) (hl : k < g.items.length) : g.inside s = some g.items[k] := by
  simp [GV.inside, hs, hk, hi, hl]
theorem inside_key {g : GV} {s : GStep} (hs : s.list = false) (hk : g.kind = 5) (ht : there s.key g.keys = true) (hl : place s.key g.keys < g.vals.length) : g.inside s = some (g.vals[place s.key g.keys]) := by
  simp [GV.inside, hs, hk, ht, hl]
theorem inside_cases {g h : GV} {s : GStep} (hi : g.inside s = some h) :
    (s.list = true ∧ g.kind = 4 ∧ ∃ k : Nat, s.i = k ∧ g.items[k]? = some h) ∨ (s.list = false ∧ g.kind = 5 ∧ there s.key g.keys = true ∧ g.vals[place s.key g.keys]? = some h) := by
  unfold GV.inside at hi
  split at hi
  · rename_i hl
    split at hi
    · rename_i hc
      exact .inl ⟨hl, hc.1, s.i.toNat, by omega, hi⟩
    · cases hi
  · rename_i hl
    split at hi
    · rename_i hc
      exact .inr ⟨by simpa using hl, hc.1, hc.2, hi⟩
    · cases hi
theorem there_lt {key : ByteArray} {ks : List ByteArray} (h : there key ks = true) : place key ks < ks.length := by
  unfold there at h
  by_cases hl : place key ks < ks.length
  · exact hl
  · rw [List.getElem?_eq_none (by omega)] at h; simp at h

@[simp] theorem setIn_kind (g : GV) (s : GStep) (y : GV) : (g.setIn s y).kind = g.kind := by unfold GV.setIn; split <;> rfl
@[simp] theorem setIn_num (g : GV) (s : GStep) (y : GV) : (g.setIn s y).num = g.num := by unfold GV.setIn; split <;> rfl
@[simp] theorem setIn_str (g : GV) (s : GStep) (y : GV) : (g.setIn s y).str = g.str := by unfold GV.setIn; split <;> rfl
@[simp] theorem setIn_keys (g : GV) (s : GStep) (y : GV) : (g.setIn s y).keys = g.keys := by unfold GV.setIn; split <;> rfl
theorem setIn_items {g : GV} {s : GStep} {y : GV} (h : s.list = true) : (g.setIn s y).items = g.items.set s.i.toNat y ∧ (g.setIn s y).vals = g.vals := by unfold GV.setIn; simp [h, GV.items, GV.vals]
theorem setIn_vals {g : GV} {s : GStep} {y : GV} (h : s.list = false) : (g.setIn s y).items = g.items ∧ (g.setIn s y).vals = g.vals.set (place s.key g.keys) y := by unfold GV.setIn; simp [h, GV.items, GV.vals]

theorem weights_set : ∀ (l : List GV) (k : Nat) (y : GV), GV.weights (l.set k y) ≤ GV.weights l + y.weight
  | [], _, _ => by simp [GV.weights]
  | x :: r, 0, y => by simp [GV.weights]; omega
  | x :: r, k + 1, y => by
    have := weights_set r k y
    simp only [List.set_cons_succ, GV.weights]
    omega
theorem weight_set_mem : ∀ (l : List GV) (k : Nat) (h y : GV), l[k]? = some h → GV.weights (l.set k y) + h.weight = GV.weights l + y.weight
  | [], k, h, y, e => by simp at e
  | x :: r, 0, h, y, e => by simp at e; subst e; simp [GV.weights]; omega
  | x :: r, k + 1, h, y, e => by
    have := weight_set_mem r k h y (by simpa using e)
    simp only [List.set_cons_succ, GV.weights]
    omega
theorem setIn_weight {g h : GV} {s : GStep} (y : GV) (hi : g.inside s = some h) : (g.setIn s y).weight + h.weight = g.weight + y.weight := by
  cases g with
  | mk k n z l ks ov =>
    rcases inside_cases hi with ⟨hs, _, k', hk, hg⟩ | ⟨hs, _, _, hg⟩
    · have := weight_set_mem l k' h y hg
      simp only [GV.setIn, hs, if_true, GV.weight, hk, Int.toNat_natCast, GV.kind, GV.num, GV.str, GV.items, GV.keys, GV.vals]
      omega
    · have := weight_set_mem ov _ h y hg
      simp only [GV.setIn, hs, GV.weight, GV.kind, GV.num, GV.str, GV.items, GV.keys, GV.vals, Bool.false_eq_true, if_false]
      simp only [GV.keys] at this
      omega
theorem put_weight {x : GV} : ∀ (p : List GStep) (g y : GV), g.put x p = some y → y.weight ≤ g.weight + x.weight
  | [], g, y, e => by simp [GV.put] at e; subst e; omega
  | s :: r, g, y, e => by
    simp only [GV.put] at e
    cases hi : g.inside s with
    | none => rw [hi] at e; cases e
    | some h =>
      rw [hi] at e
      simp only [Option.bind_some] at e
      cases hp : h.put x r with
      | none => rw [hp] at e; cases e
      | some z =>
        rw [hp] at e
        simp only [Option.map_some, Option.some.injEq] at e
        subst e
        have h1 := put_weight r h z hp
        have h2 := setIn_weight z hi
        omega
theorem inside_weight {g h : GV} {s : GStep} (hi : g.inside s = some h) : h.weight ≤ g.weight := by
  have := setIn_weight h hi
  have h2 := setIn_weight (y := .mk 0 0 ⟨#[]⟩ [] [] []) hi
  cases g with
  | mk k n z l ks ov =>
    rcases inside_cases hi with ⟨hs, _, k', hk, hg⟩ | ⟨hs, _, _, hg⟩
    · have h3 := weight_set_mem l k' h (.mk 0 0 ⟨#[]⟩ [] [] []) hg
      simp only [GV.weight, GV.weights, List.map_nil, List.sum_nil] at h3 ⊢
      have : (⟨#[]⟩ : ByteArray).size = 0 := rfl
      omega
    · have h3 := weight_set_mem ov _ h (.mk 0 0 ⟨#[]⟩ [] [] []) hg
      simp only [GV.weight, GV.weights, List.map_nil, List.sum_nil] at h3 ⊢
      have : (⟨#[]⟩ : ByteArray).size = 0 := rfl
      omega
theorem get_weight : ∀ (p : List GStep) (g h : GV), g.get p = some h → h.weight ≤ g.weight
  | [], g, h, e => by simp [GV.get] at e; subst e; exact Nat.le_refl _
  | s :: r, g, h, e => by
    simp only [GV.get] at e
    cases hi : g.inside s with
    | none => rw [hi] at e; cases e
    | some y => rw [hi] at e; exact Nat.le_trans (get_weight r y h e) (inside_weight hi)

/-- The steps' cells: three a step. -/
def StepsAt (W : World) (a : Addr) (ps : List GStep) : Prop :=
  ∀ i s, ps[i]? = some s → W.cell? ⟨a.block, a.off + i * 3, none⟩ = some (.bool s.list) ∧ W.cell? ⟨a.block, a.off + i * 3 + 1, none⟩ = some (.int .i64 s.i) ∧ W.cell? ⟨a.block, a.off + i * 3 + 2, none⟩ = some (.string s.key)
/-- The slice is the path ps. -/
def Steps (hi : Nat) (W : World) (A : Option Addr) (ps : List GStep) : Prop :=
  ps ≠ [] → ∃ a : Addr, A = some a ∧ a.spot = none ∧ a.block < hi ∧ StepsAt W a ps
theorem Steps.keep {hi hi' : Nat} {W W' : World} {A : Option Addr} {ps : List GStep} (hb : Below hi W W') (hhi : hi ≤ hi') (h : Steps hi W A ps) : Steps hi' W' A ps := fun hn => by
  obtain ⟨a, rfl, hs, hl, hc⟩ := h hn
  have e : ∀ o, W'.cell? ⟨a.block, o, none⟩ = W.cell? ⟨a.block, o, none⟩ := fun o => hb.cell (p := ⟨a.block, o, none⟩) hl
  refine ⟨a, rfl, hs, by omega, fun i t ht => ?_⟩
  simp only [e]
  exact hc i t ht
theorem Steps.one {hi : Nat} {W : World} {A : Option Addr} {ps : List GStep} (h : Steps hi W A ps) {k : Nat} (hk : k < ps.length) :
    ∃ b o, A = some ⟨b, o, none⟩ ∧ b < hi ∧ W.cell? ⟨b, o + k * 3, none⟩ = some (.bool ps[k].list) ∧ W.cell? ⟨b, o + k * 3 + 1, none⟩ = some (.int .i64 ps[k].i) ∧ W.cell? ⟨b, o + k * 3 + 2, none⟩ = some (.string ps[k].key) := by
  obtain ⟨⟨b, o, sp⟩, rfl, hs, hl, hc⟩ := h (by intro e; rw [e] at hk; simp at hk)
  simp only at hs
  subst hs
  exact ⟨b, o, rfl, hl, hc k ps[k] (List.getElem?_eq_getElem hk)⟩
end Go.Proofs.Ythnljaheplhbkaa

/- One step into a value: item, field, inside. -/
namespace Go.Proofs.Ythnljaheplhbkaa
open Go Go.RowKit

/-- What a step comes to, at a value whose two slices are known. -/
def InsidePost (g : GV) (s : GStep) (AL AO : Option Addr) (w : World) (e : Ending) (w' : World) : Prop :=
  Below w.heap.size w w' ∧ ((g.inside s = none ∧ e = .returned (.pointer none)) ∨
    (s.list = true ∧ ∃ (k : Nat) (b o : Nat) (h : GV), s.i = k ∧ g.items[k]? = some h ∧ g.inside s = some h ∧ AL = some ⟨b, o, none⟩ ∧ e = .returned (.pointer (some ⟨b, o + k * 5, none⟩))) ∨
    (s.list = false ∧ ∃ (b o : Nat) (h : GV), g.vals[place s.key g.keys]? = some h ∧ g.inside s = some h ∧ AO = some ⟨b, o, none⟩ ∧ e = .returned (.pointer (some ⟨b, o + place s.key g.keys * 6 + 1, none⟩))))

/-- What lies where a value lies. -/
structure Spot (ok : Nat → Prop) (W : World) (b off : Nat) (g : GV) (AL AO : Option Addr) (cL cO : Nat) : Prop where
  c0 : W.cell? ⟨b, off, none⟩ = some (.int .u8 g.kind)
  c1 : W.cell? ⟨b, off + 1, none⟩ = some (.int .i64 g.num)
  c2 : W.cell? ⟨b, off + 2, none⟩ = some (.string g.str)
  c3 : W.cell? ⟨b, off + 3, none⟩ = some (.slice AL g.items.length cL)
  c4 : W.cell? ⟨b, off + 4, none⟩ = some (.slice AO g.vals.length cO)
  lst : LstV ok W (.slice AL g.items.length cL) g.items
  obj : ObjV ok W (.slice AO g.vals.length cO) g.keys g.vals
theorem GV.at.spot {ok : Nat → Prop} {W : World} {b off : Nat} {g : GV} (h : g.at ok W b off) : ∃ AL AO cL cO, Spot ok W b off g AL AO cL cO := by
  obtain ⟨L, O, h0, h1, h2, h3, h4, hL, hO⟩ := GV.at_iff.1 h
  obtain ⟨AL, cL, rfl⟩ := lst_form hL
  obtain ⟨AO, cO, rfl⟩ := obj_form hO
  exact ⟨AL, AO, cL, cO, h0, h1, h2, h3, h4, hL, hO⟩
theorem Spot.at {ok : Nat → Prop} {W : World} {b off : Nat} {g : GV} {AL AO : Option Addr} {cL cO : Nat} (h : Spot ok W b off g AL AO cL cO) : g.at ok W b off :=
  GV.at_iff.2 ⟨_, _, h.c0, h.c1, h.c2, h.c3, h.c4, h.lst, h.obj⟩
theorem Spot.lt {ok : Nat → Prop} {W : World} {b off : Nat} {g : GV} {AL AO : Option Addr} {cL cO : Nat} (h : Spot ok W b off g AL AO cL cO) : b < W.heap.size := World.block_lt_of_cell? W _ h.c0
theorem Spot.keep {ok ok' : Nat → Prop} {W W' : World} {b off : Nat} {g : GV} {AL AO : Option Addr} {cL cO : Nat} (H : From ok W W') (hs : ∀ k, ok k → k < W.heap.size → ok' k) (hb : W'.heap[b]? = W.heap[b]?) (h : Spot ok W b off g AL AO cL cO) : Spot ok' W' b off g AL AO cL cO := by
  have hc : ∀ o, W'.cell? ⟨b, o, none⟩ = W.cell? ⟨b, o, none⟩ := fun o => World.cell?_of_block (a := ⟨b, o, none⟩) hb
  exact ⟨(hc _).trans h.c0, (hc _).trans h.c1, (hc _).trans h.c2, (hc _).trans h.c3, (hc _).trans h.c4, h.lst.keep H hs, h.obj.keep H hs⟩

theorem InsidePost.mono {g : GV} {s : GStep} {AL AO : Option Addr} {w w0 w' : World} {e : Ending} (h : InsidePost g s AL AO w e w') (hb : Below w0.heap.size w0 w) : InsidePost g s AL AO w0 e w' :=
  ⟨hb.trans (h.1.mono hb.size), h.2⟩

end Go.Proofs.Ythnljaheplhbkaa

/- reach, for one who looks: it goes where the path leads, and on by whatever closure. -/
namespace Go.Proofs.Ythnljaheplhbkaa
open Go Go.RowKit

theorem inside_next {ok : Nat → Prop} {W W' : World} {b off : Nat} {g : GV} {s : GStep} {AL AO : Option Addr} {cL cO : Nat} {e : Ending} (h : Spot ok W b off g AL AO cL cO) (hq : InsidePost g s AL AO W e W') :
    Below W.heap.size W W' ∧ ((g.inside s = none ∧ e = .returned (.pointer none)) ∨ ∃ b' o' h', g.inside s = some h' ∧ e = .returned (.pointer (some ⟨b', o', none⟩)) ∧ h'.at ok W' b' o') := by
  obtain ⟨hb, hq⟩ := hq
  refine ⟨hb, ?_⟩
  rcases hq with h1 | ⟨_, k, lb, lo, h', hi, hg, hin, rfl, rfl⟩ | ⟨_, ob, oo, h', hg, hin, rfl, rfl⟩
  · exact .inl h1
  · have hl : g.items ≠ [] := by intro e; rw [e] at hg; simp at hg
    obtain ⟨_, _, he, _, _, hf⟩ := h.lst.form
    cases he
    obtain ⟨b, o, he, hK, hE⟩ := hf hl
    cases he
    exact .inr ⟨_, _, h', hin, rfl, GV.at_keep (From.of_below hb) (fun _ h _ => h) h' (hb.block _ hK.lt) (GV.els_get hE hg)⟩
  · have hl : g.vals ≠ [] := by intro e; rw [e] at hg; simp at hg
    obtain ⟨_, _, he, _, _, hf⟩ := h.obj.form
    cases he
    obtain ⟨b, o, he, hK, _, hE⟩ := hf hl
    cases he
    have := GV.els_get hE hg
    rw [show oo + 1 + place s.key g.keys * 6 = oo + place s.key g.keys * 6 + 1 by omega] at this
    exact .inr ⟨_, _, h', hin, rfl, GV.at_keep (From.of_below hb) (fun _ h _ => h) h' (hb.block _ hK.lt) this⟩

/-- Between the rounds. -/
def LookRel (ok : Nat → Prop) (g : GV) (ps : List GStep) (w : World) (v i : Value) (wr : World) : Prop :=
  ∃ (k b off : Nat) (h : GV), v = .pointer (some ⟨b, off, none⟩) ∧ i = .int .i64 k ∧ k ≤ ps.length ∧ g.get ps = h.get (ps.drop k) ∧ h.at ok wr b off ∧ Below w.heap.size w wr

end Go.Proofs.Ythnljaheplhbkaa

/- Get, the program's. -/
namespace Go.Proofs.Ythnljaheplhbkaa
open Go Go.RowKit

def zeroV : Value := .agg #[.int .u8 0, .int .i64 0, .string ⟨#[]⟩, .slice none 0 0, .slice none 0 0]
/-- What lies at X, once the copy is there. -/
def Got (h : GV) (X lo : Nat) (W : World) : Prop :=
  ∃ AL cL AO cO, Whole W X 31 #[.int .u8 h.kind, .int .i64 h.num, .string h.str, .slice AL h.items.length cL, .slice AO h.vals.length cO] ∧ LstV (fun k => lo ≤ k) W (.slice AL h.items.length cL) h.items ∧ ObjV (fun k => lo ≤ k) W (.slice AO h.vals.length cO) h.keys h.vals

theorem whole_put5 {W : World} {X : Nat} {t : TypeId} {z0 z1 z2 z3 z4 : Value} (h : Whole W X t #[z0, z1, z2, z3, z4]) (a0 a1 a2 a3 a4 : Value) : Whole (put5 W X a0 a1 a2 a3 a4) X t #[a0, a1, a2, a3, a4] :=
  ((((h.put 0 a0).put 1 a1).put 2 a2).put 3 a3).put 4 a4

def ZC : Array Value := #[.int .u8 0, .int .i64 0, .string ⟨#[]⟩, .slice none 0 0, .slice none 0 0]
def GetPost (g : GV) (ps : List GStep) (w : World) (e : Ending) (w' : World) : Prop :=
  Below w.heap.size w w' ∧ ((g.get ps = none ∧ e = .returned (.tuple #[zeroV, .int .u16 30])) ∨ ∃ h v', g.get ps = some h ∧ e = .returned (.tuple #[v', .int .u16 0]) ∧ h.val (fun k => w.heap.size ≤ k) w' v')

/-- The world in which reach is called. -/
structure Boxed (w : World) (g : GV) (AL AO : Option Addr) (cL cO : Nat) (W : World) : Prop where
  size : W.heap.size = w.heap.size + 1 + 1 + 1
  below : Below w.heap.size w W
  spot : Spot (fun _ => True) W w.heap.size 0 g AL AO cL cO
  res : Whole W (w.heap.size + 1) 31 ZC
  x : Whole W (w.heap.size + 1 + 1) 31 ZC
theorem boxed {ok : Nat → Prop} {w : World} {g : GV} {AL AO : Option Addr} {cL cO : Nat} (hL : LstV ok w (.slice AL g.items.length cL) g.items) (hO : ObjV ok w (.slice AO g.vals.length cO) g.keys g.vals) :
    Boxed w g AL AO cL cO (((w.alloc (.cells #[.int .u8 g.kind, .int .i64 g.num, .string g.str, .slice AL g.items.length cL, .slice AO g.vals.length cO] 31)).alloc (.cells ZC 31)).alloc (.cells ZC 31)) := by
  have hb : Below w.heap.size w (((w.alloc (.cells #[.int .u8 g.kind, .int .i64 g.num, .string g.str, .slice AL g.items.length cL, .slice AO g.vals.length cO] 31)).alloc (.cells ZC 31)).alloc (.cells ZC 31)) :=
    (((Below.refl _ w).alloc (Nat.le_refl _) _).alloc (by simp) _).alloc (by simp; omega) _
  have h1 := ((Whole.new w 31 #[.int .u8 g.kind, .int .i64 g.num, .string g.str, .slice AL g.items.length cL, .slice AO g.vals.length cO]).alloc (.cells ZC 31)).alloc (.cells ZC 31)
  have h2 := (Whole.new (w.alloc (.cells #[.int .u8 g.kind, .int .i64 g.num, .string g.str, .slice AL g.items.length cL, .slice AO g.vals.length cO] 31)) 31 ZC).alloc (.cells ZC 31)
  have h3 := Whole.new ((w.alloc (.cells #[.int .u8 g.kind, .int .i64 g.num, .string g.str, .slice AL g.items.length cL, .slice AO g.vals.length cO] 31)).alloc (.cells ZC 31)) 31 ZC
  rw [World.size_alloc] at h2
  rw [World.size_alloc, World.size_alloc] at h3
  obtain ⟨c0, c1, c2, c3, c4, _⟩ := h1.five
  exact ⟨by simp, hb, ⟨c0, c1, c2, c3, c4, hL.keep (From.of_below hb) (fun _ _ _ => trivial), hO.keep (From.of_below hb) (fun _ _ _ => trivial)⟩, h2, h3⟩

end Go.Proofs.Ythnljaheplhbkaa

/- Get, the program's: what it answers has no room to spare. -/
namespace Go.Proofs.Ythnljaheplhbkaa
open Go Go.RowKit

/-- What lies at X, once the copy is there. -/
def GotF (h : GV) (X lo : Nat) (W : World) : Prop :=
  ∃ AL cL AO, Whole W X 31 #[.int .u8 h.kind, .int .i64 h.num, .string h.str, .slice AL h.items.length cL, .slice AO h.vals.length h.vals.length] ∧ LstV (fun k => lo ≤ k) W (.slice AL h.items.length cL) h.items ∧ ObjV (fun k => lo ≤ k) W (.slice AO h.vals.length h.vals.length) h.keys h.vals ∧ FullO lo W h (.agg #[.int .u8 h.kind, .int .i64 h.num, .string h.str, .slice AL h.items.length cL, .slice AO h.vals.length h.vals.length])

def GetPostF (g : GV) (ps : List GStep) (w : World) (e : Ending) (w' : World) : Prop :=
  Below w.heap.size w w' ∧ ((g.get ps = none ∧ e = .returned (.tuple #[zeroV, .int .u16 30])) ∨ ∃ h v', g.get ps = some h ∧ e = .returned (.tuple #[v', .int .u16 0]) ∧ (h.val (fun k => w.heap.size ≤ k) w' v' ∧ FullO w.heap.size w' h v'))

end Go.Proofs.Ythnljaheplhbkaa
