/- A disk, plain: files with what they have and how much of it lasts; what each call comes to. -/
import Derived.Test.YtkieacidpiffpaaDskB
namespace Go.Proofs.Ytkieacidpiffpaa
open Go Go.RowKit
set_option linter.unusedVariables false
set_option linter.unusedSimpArgs false

/-- A file: its name, its bytes, how many of them last. -/
structure Vw where
  name : ByteArray
  has : List Int
  lasts : Nat
/-- A disk; left: how many calls till it is halted, -1: it never is. -/
structure Md where
  room : Nat
  full : Bool
  left : Int
  fs : List Vw
def sizes (fs : List Vw) : Nat := (fs.map fun f => f.has.length).sum
def Md.look (m : Md) (s : ByteArray) : Option Vw := m.fs.find? fun f => decide (f.name = s)
def updV (fs : List Vw) (s : ByteArray) (g : Vw → Vw) : List Vw := fs.map fun f => if f.name = s then g f else f
def Md.tick (m : Md) : Md := if 0 < m.left then { m with left := m.left - 1 } else m
/-- Append, of a disk that is not halted. -/
def Md.app (m : Md) (s : ByteArray) (bs : List Int) : Md × Int :=
  if m.full = true ∨ m.room < sizes m.fs + bs.length then (m, 130) else
  match m.look s with
  | some _ => ({ m with fs := updV m.fs s fun f => { f with has := f.has ++ bs } }, 0)
  | none => if 64 ≤ m.fs.length ∨ s.size = 0 ∨ 30 < s.size then (m, 130) else ({ m with fs := m.fs ++ [⟨s, bs, 0⟩] }, 0)
/-- A change of a file that is there. -/
def Md.chg (m : Md) (s : ByteArray) (g : Vw → Vw) (no : Vw → Bool) (c : Int) : Md × Int :=
  match m.look s with
  | none => (m, 131)
  | some f => if no f = true then (m, c) else ({ m with fs := updV m.fs s g }, 0)
def Md.drp (m : Md) (s : ByteArray) : Md × Int :=
  match m.look s with
  | none => (m, 131)
  | some _ => ({ m with fs := m.fs.filter fun f => decide (f.name ≠ s) }, 0)
/-- One of the four calls: nothing where the disk is halted; counted else. -/
def Md.call (m : Md) (g : Md → Md × Int) : Md × Int := if m.left = 0 then (m, 130) else g m.tick
def syncV (f : Vw) : Vw := { f with lasts := f.has.length }
def cutV (n : Nat) (f : Vw) : Vw := { f with has := f.has.take n, lasts := min f.lasts n }
def lastsV (k : Int) (f : Vw) : Nat := min (f.lasts + k.toNat) (max f.lasts f.has.length)
def crashV (k : Int) (f : Vw) : Vw := { f with has := f.has.take (lastsV k f), lasts := lastsV k f }
def Md.append (m : Md) (s : ByteArray) (bs : List Int) : Md × Int := m.call fun m => m.app s bs
def Md.sync (m : Md) (s : ByteArray) : Md × Int := m.call fun m => m.chg s syncV (fun _ => false) 0
def Md.cut (m : Md) (s : ByteArray) (n : Int) : Md × Int := m.call fun m => m.chg s (cutV n.toNat) (fun f => decide (n < 0 ∨ f.has.length < n)) 1
def Md.drop (m : Md) (s : ByteArray) : Md × Int := m.call fun m => m.drp s
def Md.halt (m : Md) (n : Int) : Md := { m with left := max n (-1) }
def Md.crash (m : Md) (k : Int) : Md := { m with full := false, left := -1, fs := m.fs.map (crashV k) }

theorem sizes_nil : sizes [] = 0 := rfl
theorem sizes_cons (f : Vw) (r : List Vw) : sizes (f :: r) = f.has.length + sizes r := by simp [sizes]
theorem sizes_append (a b : List Vw) : sizes (a ++ b) = sizes a + sizes b := by simp [sizes]
theorem sizes_mem {fs : List Vw} {f : Vw} (h : f ∈ fs) : f.has.length ≤ sizes fs := by
  induction fs with
  | nil => cases h
  | cons a r ih =>
    rw [sizes_cons]
    rcases List.mem_cons.1 h with rfl | h
    · omega
    · have := ih h; omega

/-! ### the program's own files: each with its box and its row -/
structure Fl where
  vw : Vw
  blk : Nat
  row : Value
def Fl.own (f : Fl) (i : Nat) : Prop := i = f.blk ∨ f.row.ownBlock = some i
def vws (fs : List Fl) : List Vw := fs.map Fl.vw
def lookF (fs : List Fl) (s : ByteArray) : Option Fl := fs.find? fun f => decide (f.vw.name = s)
theorem look_vws (fs : List Fl) (s : ByteArray) : (vws fs).find? (fun f => decide (f.name = s)) = (lookF fs s).map Fl.vw := by
  unfold vws lookF
  rw [List.find?_map]; rfl
theorem lookF_some {fs : List Fl} {s : ByteArray} {f : Fl} (h : lookF fs s = some f) : f ∈ fs ∧ f.vw.name = s := ⟨List.mem_of_find?_eq_some h, by simpa using List.find?_some h⟩
theorem lookF_none {fs : List Fl} {s : ByteArray} (h : lookF fs s = none) : ∀ f ∈ fs, f.vw.name ≠ s := fun f hf => by simpa using List.find?_eq_none.1 h f hf

abbrev keyL (s : ByteArray) : Lit := .string s.data.toList
theorem keyL_inj {s t : ByteArray} (h : keyL s = keyL t) : s = t := by
  simp only [keyL, Lit.string.injEq] at h
  cases s; cases t
  simpa [ByteArray.mk.injEq, Array.toList_inj] using h
def ptrE (v : Value) : Option (DataW Unit × List MemPlace) :=
  match v with
  | .pointer none => some (.nil, [])
  | .pointer (some a) => if a.off = 0 ∧ a.spot = none then some (.lit (.int .i64 a.block), []) else none
  | _ => none
def ptrV (c : Option Nat) : Value := .pointer (c.map fun b => ⟨b, 0, none⟩)
theorem ptrE_mk (b : Nat) : ptrE (ptrV (some b)) = some (.lit (.int .i64 b), []) := by simp [ptrE, ptrV]
theorem ptrE_none : ptrE (.pointer none) = some (.nil, []) := rfl
theorem ptrE_inv {v : Value} {y : DataW Unit × List MemPlace} (h : ptrE v = some y) : ∃ c, v = ptrV c ∧ y.1 = (match c with | none => .nil | some b => .lit (.int .i64 b)) := by
  unfold ptrE at h
  split at h
  · cases h; exact ⟨none, rfl, rfl⟩
  · rename_i a
    split at h
    · rename_i hc
      obtain ⟨b, o, s⟩ := a
      obtain ⟨rfl, rfl⟩ := hc
      cases h
      exact ⟨some b, rfl, rfl⟩
    · cases h
  · cases h

/-- What the map reads as: the files' boxes by their names. -/
structure Rd (D : DataW Unit) (fs : List Fl) : Prop where
  at_ : ∀ s z, D.atKey (keyL s) z = (match lookF fs s with | some f => .lit (.int .i64 f.blk) | none => z)
  size : Maps.size D = fs.length
  keys : ∀ kl, Maps.has D kl = true → ∃ s, kl = keyL s
theorem Rd.has {D : DataW Unit} {fs : List Fl} (h : Rd D fs) (s : ByteArray) : Maps.has D (keyL s) = (lookF fs s).isSome := by
  cases hl : lookF fs s with
  | none => exact Maps.has_false_of_atKey fun z => by rw [h.at_, hl]
  | some f => exact Maps.has_true_of_atKey (y := .lit (.int .i64 f.blk)) fun z => by rw [h.at_, hl]
theorem Rd.made : Rd (.map []) [] := ⟨fun _ _ => rfl, rfl, fun kl h => by simp [Maps.has] at h⟩
theorem lookF_append (fs : List Fl) (f : Fl) (s : ByteArray) : lookF (fs ++ [f]) s = (lookF fs s).or (if f.vw.name = s then some f else none) := by
  unfold lookF
  rw [List.find?_append]
  congr 1
  by_cases h : f.vw.name = s <;> simp [h]
theorem Rd.put {D : DataW Unit} {fs : List Fl} (h : Rd D fs) (ht : Maps.Tidy D) {f : Fl} (hn : lookF fs f.vw.name = none) : Rd (D.put (keyL f.vw.name) (.lit (.int .i64 f.blk))) (fs ++ [f]) := by
  refine ⟨fun s z => ?_, ?_, fun kl hk => ?_⟩
  · by_cases e : s = f.vw.name
    · subst e
      rw [Maps.atKey_put_same ht.isMap (show WideAt.IsKeyLit (keyL f.vw.name) from True.intro), lookF_append, hn]
      simp
    · rw [Maps.atKey_put_other (fun e2 => e (keyL_inj e2)), h.at_, lookF_append]
      rw [if_neg (fun e2 => e e2.symm)]
      cases lookF fs s <;> rfl
  · have := Maps.size_put (k := keyL f.vw.name) ht (.lit (.int .i64 f.blk))
    rw [h.has, hn] at this
    rw [this, h.size]; simp
  · by_cases e : kl = keyL f.vw.name
    · exact ⟨_, e⟩
    · rw [Maps.has_put_other e] at hk; exact h.keys kl hk
theorem lookF_filter (fs : List Fl) (s t : ByteArray) : lookF (fs.filter fun f => decide (f.vw.name ≠ s)) t = if t = s then none else lookF fs t := by
  unfold lookF
  induction fs with
  | nil => simp
  | cons f r ih =>
    by_cases h1 : f.vw.name = s
    · by_cases h2 : t = s
      · subst h2; rw [if_pos rfl]; exact List.find?_eq_none.2 fun g hg => by simpa using (List.mem_filter.1 hg).2
      · have h3 : f.vw.name ≠ t := fun e => h2 (e.symm.trans h1)
        rw [if_neg h2] at ih ⊢
        rw [List.find?_cons_of_neg (by simpa using h3), ← ih]
        simp [List.filter_cons, h1]
    · simp only [List.filter_cons, h1, ne_eq, not_false_eq_true, decide_true, if_true]
      by_cases h2 : f.vw.name = t
      · have h3 : t ≠ s := fun e => h1 (h2.trans e)
        simp [h2, h3]
      · rw [List.find?_cons_of_neg (by simpa using h2), List.find?_cons_of_neg (by simpa using h2)]
        exact ih
theorem filter_one {fs : List Fl} (hp : fs.Pairwise fun f g => f.vw.name ≠ g.vw.name) {s : ByteArray} {f : Fl} (h : lookF fs s = some f) : (fs.filter fun f => decide (f.vw.name ≠ s)).length + 1 = fs.length := by
  unfold lookF at h
  induction fs with
  | nil => simp at h
  | cons a r ih =>
    obtain ⟨h1, h2⟩ := List.pairwise_cons.1 hp
    by_cases e : a.vw.name = s
    · have hr : r.filter (fun f => decide (f.vw.name ≠ s)) = r := List.filter_eq_self.2 fun g hg => by simpa using fun e2 => h1 g hg (e.trans e2.symm)
      simp only [List.filter_cons, e, ne_eq, not_true_eq_false, decide_false, Bool.false_eq_true, if_false]
      simp only [ne_eq] at hr
      rw [hr]; rfl
    · rw [List.find?_cons_of_neg (by simpa using e)] at h
      have := ih h2 h
      simp only [List.filter_cons, e, ne_eq, not_false_eq_true, decide_true, if_true, List.length_cons]
      simp only [ne_eq] at this
      omega
theorem Rd.del {D : DataW Unit} {fs : List Fl} (h : Rd D fs) (ht : Maps.Tidy D) (hp : fs.Pairwise fun f g => f.vw.name ≠ g.vw.name) {s : ByteArray} {f : Fl} (hl : lookF fs s = some f) : Rd (D.del (keyL s)) (fs.filter fun f => decide (f.vw.name ≠ s)) := by
  refine ⟨fun t z => ?_, ?_, fun kl hk => ?_⟩
  · rw [lookF_filter]
    by_cases e : t = s
    · subst e; rw [Maps.atKey_del_same, if_pos rfl]
    · rw [Maps.atKey_del_other (fun e2 => e (keyL_inj e2)), h.at_, if_neg e]
  · have := Maps.size_del (k := keyL s) ht
    rw [h.has, hl] at this
    have h2 := filter_one hp hl
    have h3 := h.size
    simp at this
    omega
  · by_cases e : kl = keyL s
    · exact ⟨_, e⟩
    · rw [Maps.has_del_other e] at hk; exact h.keys kl hk
def updF (fs : List Fl) (s : ByteArray) (f' : Fl) : List Fl := fs.map fun g => if g.vw.name = s then f' else g
theorem lookF_upd (fs : List Fl) (f' : Fl) (t : ByteArray) : lookF (updF fs f'.vw.name f') t = (lookF fs t).map fun g => if g.vw.name = f'.vw.name then f' else g := by
  unfold lookF updF
  rw [List.find?_map]
  have : ((fun f : Fl => decide (f.vw.name = t)) ∘ fun g : Fl => if g.vw.name = f'.vw.name then f' else g) = fun g : Fl => decide (g.vw.name = t) := by
    funext g
    show decide ((if g.vw.name = f'.vw.name then f' else g).vw.name = t) = _
    split
    · rename_i e; rw [e]
    · rfl
  rw [this]
theorem Rd.upd {D : DataW Unit} {fs : List Fl} (h : Rd D fs) {f f' : Fl} (hl : lookF fs f'.vw.name = some f) (hb : f'.blk = f.blk) : Rd D (updF fs f'.vw.name f') := by
  refine ⟨fun t z => ?_, by rw [h.size]; simp [updF], h.keys⟩
  rw [h.at_, lookF_upd]
  have key : ∀ g, lookF fs t = some g → (if g.vw.name = f'.vw.name then f' else g).blk = g.blk := fun g hg => by
    split
    · rename_i e
      have h2 := (lookF_some hg).2
      rw [← h2, e, hl] at hg
      cases hg; exact hb
    · rfl
  cases ht : lookF fs t with
  | none => rfl
  | some g =>
    have := key g ht
    simp only [Option.map_some]
    rw [this]
end Go.Proofs.Ytkieacidpiffpaa
