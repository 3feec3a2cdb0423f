/- Both disks, plain: the one's files are the other's in another order; what each call keeps of that. -/
import Derived.Test.YtkieacidpiffpaaDsmH
namespace Go.Proofs.Ytkieacidpiffpaa
open Go Go.RowKit Go.Shelf
set_option linter.unusedVariables false
set_option linter.unusedSimpArgs false

theorem bless : ∀ x y : List UInt8, Op.bytesLess x y = decide (x < y)
  | [], [] => by simp [Op.bytesLess]
  | [], _ :: _ => by simp [Op.bytesLess]
  | _ :: _, [] => by simp [Op.bytesLess]
  | a :: x, b :: y => by
    rw [Op.bytesLess, bless x y]
    simp only [List.cons_lt_cons_iff]
    by_cases h1 : a < b <;> by_cases h2 : a = b <;> by_cases h3 : x < y <;> simp [h1, h2, h3]
theorem nameLt_is (a b : ByteArray) : nameLt a b = true ↔ nmL a < nmL b := by
  unfold nameLt
  rw [bless, decide_eq_true_eq, ByteArray.toList_eq, ByteArray.toList_eq]
theorem nmL_inj {a b : ByteArray} (h : nmL a = nmL b) : a = b := by
  cases a; cases b
  exact congrArg ByteArray.mk (Array.toList_inj.1 h)
theorem lt_ne {a b : ByteArray} (h : nmL a < nmL b) : a ≠ b := fun e => by
  subst e; exact List.lt_irrefl _ h
theorem lt_of {a b : ByteArray} (h : ¬ nmL a < nmL b) (hne : a ≠ b) : nmL b < nmL a := by
  by_cases h2 : nmL b < nmL a
  · exact h2
  · exact absurd (nmL_inj (List.le_antisymm (List.not_lt.1 h2) (List.not_lt.1 h))) hne
abbrev Up (fs : List Vw) : Prop := fs.Pairwise fun f g => nmL f.name < nmL g.name
abbrev Ap (fs : List Vw) : Prop := fs.Pairwise fun f g => f.name ≠ g.name
theorem Up.ap {fs : List Vw} (h : Up fs) : Ap fs := h.imp fun h1 => lt_ne h1
structure Rel (m : Md) (r : Rm) : Prop where
  room : m.room = r.room
  full : m.full = r.on
  left : m.left = r.left
  dead : r.dead = true → r.left = 0
  perm : r.fs.Perm m.fs
  up : Up r.fs
theorem Ap.perm {a b : List Vw} (h : Ap a) (p : a.Perm b) : Ap b := p.pairwise h fun h => Ne.symm h
theorem Rel.ap {m : Md} {r : Rm} (h : Rel m r) : Ap m.fs := h.up.ap.perm h.perm
theorem Rel.sizes {m : Md} {r : Rm} (h : Rel m r) : sizes r.fs = sizes m.fs := by
  unfold Go.Proofs.Ytkieacidpiffpaa.sizes
  exact (h.perm.map _).sum_nat
theorem Rel.len {m : Md} {r : Rm} (h : Rel m r) : r.fs.length = m.fs.length := h.perm.length_eq
/-- A file by its name: the one way and the other. -/
theorem find_one {fs : List Vw} (h : Ap fs) {f : Vw} (hf : f ∈ fs) : fs.find? (fun g => decide (g.name = f.name)) = some f := by
  induction fs with
  | nil => cases hf
  | cons a l ih =>
    obtain ⟨h1, h2⟩ := List.pairwise_cons.1 h
    rcases List.mem_cons.1 hf with rfl | hf
    · exact List.find?_cons_of_pos (by simp)
    · rw [List.find?_cons_of_neg (by simpa using h1 f hf)]
      exact ih h2 hf
theorem find_no {fs : List Vw} {s : ByteArray} (h : ∀ f ∈ fs, f.name ≠ s) : fs.find? (fun g => decide (g.name = s)) = none := List.find?_eq_none.2 fun f hf => by simpa using h f hf
theorem Rel.found {m : Md} {r : Rm} (h : Rel m r) {s : ByteArray} {k : Nat} (hk : idxR r.fs s = some k) : ∃ f, r.fs[k]? = some f ∧ f.name = s ∧ m.look s = some f := by
  obtain ⟨f, hf, rfl⟩ := idxR_some hk
  exact ⟨f, hf, rfl, find_one h.ap (h.perm.mem_iff.1 (List.mem_of_getElem? hf))⟩
theorem idxR_no : ∀ {fs : List Vw} {s : ByteArray}, idxR fs s = none → ∀ f ∈ fs, f.name ≠ s
  | [], s, _, f, hf => by cases hf
  | g :: r, s, h, f, hf => by
    by_cases e : g.name = s
    · rw [idxR, if_pos e] at h; cases h
    · rw [idxR, if_neg e] at h
      rcases List.mem_cons.1 hf with rfl | hf
      · exact e
      · exact idxR_no (by cases h2 : idxR r s with | none => rfl | some j => rw [h2] at h; cases h) f hf
theorem Rel.none {m : Md} {r : Rm} (h : Rel m r) {s : ByteArray} (hk : idxR r.fs s = none) : m.look s = none := find_no fun f hf => idxR_no hk f (h.perm.mem_iff.2 hf)
theorem modV_upd : ∀ {fs : List Vw} {s : ByteArray} {k : Nat} (g : Vw → Vw), Ap fs → idxR fs s = some k → modV fs k g = updV fs s g
  | [], s, k, g, _, h => by simp [idxR] at h
  | a :: l, s, k, g, ha, h => by
    obtain ⟨h1, h2⟩ := List.pairwise_cons.1 ha
    by_cases e : a.name = s
    · rw [idxR, if_pos e] at h; cases h
      have hl : l.map (fun f => if f.name = s then g f else f) = l := by
        conv => rhs; rw [← List.map_id l]
        exact List.map_congr_left fun f hf => if_neg fun e2 => h1 f hf (e.trans e2.symm)
      unfold modV updV
      simp [e, hl]
    · rw [idxR, if_neg e] at h
      cases h3 : idxR l s with
      | none => rw [h3] at h; cases h
      | some j =>
        rw [h3] at h; cases h
        have h4 := modV_upd g h2 h3
        unfold modV updV at h4 ⊢
        rw [List.map_cons, if_neg e, ← h4]
        simp only [List.getElem?_cons_succ]
        cases l[j]? <;> simp
theorem updV_up {fs : List Vw} (h : Up fs) {s : ByteArray} {g : Vw → Vw} (hg : ∀ f, (g f).name = f.name) : Up (updV fs s g) := by
  unfold updV Up
  rw [List.pairwise_map]
  refine h.imp fun {a b} h1 => ?_
  have e : ∀ f : Vw, (if f.name = s then g f else f).name = f.name := fun f => by split; exact hg f; rfl
  rw [e, e]; exact h1
end Go.Proofs.Ytkieacidpiffpaa
