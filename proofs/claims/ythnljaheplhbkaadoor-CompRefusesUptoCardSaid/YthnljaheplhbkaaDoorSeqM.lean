/- What is done to a list, and what is to be done behind something else, as plain mathematics: both ways come to one list. Nothing of the program is spoken of here. -/
import Derived.WalkKit
namespace Go.Proofs.YthnljaheplhbkaaDoor
set_option linter.unusedVariables false
set_option linter.unusedSimpArgs false
structure Cm (α : Type) where
  k : Nat
  i : Nat
  j : Nat
  v : α

def lessN (k i : Nat) : Nat := if i < k then k - 1 else k
def moreN (k i : Nat) (left : Bool) : Nat := if i < k ∨ (i = k ∧ left = false) then k + 1 else k
def gapN (k kind i j : Nat) (left : Bool) : Nat :=
  if kind = 4 then moreN k i left else if kind = 5 then lessN k i else if kind = 7 then moreN (lessN k i) j left else k
def listK (k : Nat) : Bool := decide (k = 4 ∨ k = 5 ∨ k = 6 ∨ k = 7)
def staysN (ak bk : Nat) (left : Bool) : Bool := if bk = 5 then false else if bk = ak then left else true
def turnG {α : Type} (a b : Cm α) (left : Bool) : Option (Cm α) :=
  if (listK a.k && listK b.k) = false then some a
  else if a.k = 4 then some { a with i := gapN a.i b.k b.i b.j left }
  else if a.i = b.i ∧ b.k ≠ 4 then
    if staysN a.k b.k left = false then none
    else some (if b.k = 7 then { a with i := b.j } else a)
  else
    some { a with i := gapN a.i b.k b.i b.j false, j := if a.k = 7 then gapN a.j b.k (lessN b.i a.i) (if b.k = 7 then lessN b.j (lessN a.i b.i) else b.j) left else a.j }

variable {α : Type}
def insL (l : List α) (i : Nat) (v : α) : List α := l.take i ++ v :: l.drop i
def remL (l : List α) (i : Nat) : List α := l.take i ++ l.drop (i + 1)
def doL (l : List α) (c : Cm α) : List α :=
  if c.k = 4 then insL l c.i c.v else if c.k = 5 then remL l c.i else if c.k = 6 then insL (remL l c.i) c.i c.v
  else match l[c.i]? with
    | some x => insL (remL l c.i) c.j x
    | none => l
def okC (n : Nat) (c : Cm α) : Prop := (c.k = 4 ∧ c.i ≤ n) ∨ ((c.k = 5 ∨ c.k = 6) ∧ c.i < n) ∨ (c.k = 7 ∧ c.i < n ∧ c.j < n)
def doLs (l : List α) : Option (Cm α) → List α
  | none => l
  | some c => doL l c
def okCs (n : Nat) : Option (Cm α) → Prop
  | none => True
  | some c => okC n c

theorem ins_get (l : List α) (i : Nat) (v : α) (h : i ≤ l.length) (k : Nat) : (insL l i v)[k]? = if k < i then l[k]? else if k = i then some v else l[k - 1]? := by
  unfold insL
  have ht : (l.take i).length = i := by simp; omega
  by_cases h1 : k < i
  · rw [if_pos h1, List.getElem?_append_left (by omega), List.getElem?_take, if_pos h1]
  · rw [if_neg h1, List.getElem?_append_right (by omega), ht]
    by_cases h2 : k = i
    · subst h2; simp
    · rw [if_neg h2, show k - i = (k - i - 1) + 1 by omega, List.getElem?_cons_succ, List.getElem?_drop]
      congr 1; omega
theorem rem_get (l : List α) (i : Nat) (h : i < l.length) (k : Nat) : (remL l i)[k]? = if k < i then l[k]? else l[k + 1]? := by
  unfold remL
  have ht : (l.take i).length = i := by simp; omega
  by_cases h1 : k < i
  · rw [if_pos h1, List.getElem?_append_left (by omega), List.getElem?_take, if_pos h1]
  · rw [if_neg h1, List.getElem?_append_right (by omega), ht, List.getElem?_drop]
    congr 1; omega
theorem ins_len (l : List α) (i : Nat) (v : α) (h : i ≤ l.length) : (insL l i v).length = l.length + 1 := by unfold insL; simp; omega
theorem rem_len (l : List α) (i : Nat) (h : i < l.length) : (remL l i).length = l.length - 1 := by unfold remL; simp; omega

theorem do_ins {l : List α} {c : Cm α} (h : c.k = 4) : doL l c = insL l c.i c.v := by unfold doL; simp [h]
theorem do_rem {l : List α} {c : Cm α} (h : c.k = 5) : doL l c = remL l c.i := by unfold doL; simp [h]
theorem do_set {l : List α} {c : Cm α} (h : c.k = 6) : doL l c = insL (remL l c.i) c.i c.v := by unfold doL; simp [h]
theorem do_move {l : List α} {c : Cm α} (h : c.k = 7) (hi : c.i < l.length) : doL l c = insL (remL l c.i) c.j l[c.i] := by unfold doL; simp [h, hi]

/-- What stands at a place then: the element that stood at some place, or the new one. -/
theorem do_get {l : List α} {c : Cm α} (h : okC l.length c) (k : Nat) : (doL l c)[k]? =
    if c.k = 4 then (if k < c.i then l[k]? else if k = c.i then some c.v else l[k - 1]?)
    else if c.k = 5 then (if k < c.i then l[k]? else l[k + 1]?)
    else if c.k = 6 then (if k = c.i then some c.v else l[k]?)
    else (if k = c.j then l[c.i]? else if k < c.j then (if k < c.i then l[k]? else l[k + 1]?) else (if k - 1 < c.i then l[k - 1]? else l[k]?)) := by
  obtain ⟨ck, ci, cj, cv⟩ := c
  rcases h with ⟨h, hi⟩ | ⟨h | h, hi⟩ | ⟨h, hi, hj⟩ <;> simp only at h hi <;> subst h
  · rw [do_ins rfl, ins_get _ _ _ hi]; simp
  · rw [do_rem rfl, rem_get _ _ hi]; simp
  · have hl := rem_len l ci hi
    rw [do_set rfl, ins_get _ _ _ (by simp only; omega), rem_get _ _ hi, rem_get _ _ hi]
    simp only
    by_cases h1 : k < ci
    · simp [h1, show k ≠ ci by omega]
    · by_cases h2 : k = ci
      · simp [h2]
      · simp [h1, h2, show ¬ k - 1 < ci by omega, show k - 1 + 1 = k by omega]
  · have hl := rem_len l ci hi
    rw [do_move rfl hi, ins_get _ _ _ (by simp only at hj ⊢; omega), rem_get _ _ hi, rem_get _ _ hi]
    simp only
    by_cases h1 : k < cj
    · simp [h1, show k ≠ cj by omega]
    · by_cases h2 : k = cj
      · simp [h2, List.getElem?_eq_getElem hi]
      · simp [h1, h2, show k - 1 + 1 = k by omega]
theorem do_len {l : List α} {c : Cm α} (h : okC l.length c) : (doL l c).length = if c.k = 4 then l.length + 1 else if c.k = 5 then l.length - 1 else l.length := by
  obtain ⟨ck, ci, cj, cv⟩ := c
  rcases h with ⟨h, hi⟩ | ⟨h | h, hi⟩ | ⟨h, hi, hj⟩ <;> simp only at h hi <;> subst h
  · rw [do_ins rfl, ins_len _ _ _ hi]; simp
  · rw [do_rem rfl, rem_len _ _ hi]; simp
  · have hl := rem_len l ci hi
    rw [do_set rfl, ins_len _ _ _ (by simp only; omega), hl]; simp; omega
  · have hl := rem_len l ci hi
    rw [do_move rfl hi, ins_len _ _ _ (by simp only at hj ⊢; omega), hl]; simp; omega

theorem turn_ok {n : Nat} {x y : Cm α} (hx : okC n x) (hy : okC n y) (left : Bool) : okCs (if y.k = 4 then n + 1 else if y.k = 5 then n - 1 else n) (turnG x y left) := by
  obtain ⟨xk, xi, xj, xv⟩ := x
  obtain ⟨yk, yi, yj, yv⟩ := y
  simp only [okC] at hx hy
  rcases hx with ⟨rfl, h1⟩ | ⟨rfl | rfl, h1⟩ | ⟨rfl, h1, h1'⟩ <;> rcases hy with ⟨rfl, h2⟩ | ⟨rfl | rfl, h2⟩ | ⟨rfl, h2, h2'⟩ <;> cases left <;>
    simp only [turnG, listK, staysN, gapN, lessN, moreN] <;> simp <;> (repeat' split) <;> simp [okCs, okC] <;> (try omega)

theorem do_set' {l : List α} {c : Cm α} (h : c.k = 6) (hi : c.i < l.length) : doL l c = l.set c.i c.v := by
  rw [do_set h]
  unfold insL remL
  have ht : (l.take c.i).length = c.i := by simp; omega
  rw [List.take_left' ht, List.drop_left' ht, List.set_eq_take_append_cons_drop, if_pos hi]

theorem ins_ins (l : List α) (j k : Nat) (a b : α) (hj : j ≤ l.length) (hk : k ≤ l.length) (L : Bool) : insL (insL l j a) (moreN k j L) b = insL (insL l k b) (moreN j k (!L)) a := by
  have h1 := ins_len l j a hj
  have h2 := ins_len l k b hk
  apply List.ext_getElem?
  intro t
  unfold moreN
  rcases Nat.lt_trichotomy j k with h | h | h
  · rw [if_pos (.inl h), if_neg (by omega), ins_get (insL l j a) _ _ (by omega), ins_get (insL l k b) _ _ (by omega)]
    simp only [ins_get l j a hj, ins_get l k b hk]
    grind
  · subst h
    cases L
    · rw [if_pos (by simp), if_neg (by simp), ins_get (insL l j a) _ _ (by omega), ins_get (insL l j b) _ _ (by omega)]
      simp only [ins_get l j a hj, ins_get l j b hk]
      grind
    · rw [if_neg (by simp), if_pos (by simp), ins_get (insL l j a) _ _ (by omega), ins_get (insL l j b) _ _ (by omega)]
      simp only [ins_get l j a hj, ins_get l j b hk]
      grind
  · rw [if_neg (by omega), if_pos (.inl h), ins_get (insL l j a) _ _ (by omega), ins_get (insL l k b) _ _ (by omega)]
    simp only [ins_get l j a hj, ins_get l k b hk]
    grind
theorem rem_ins (l : List α) (j p : Nat) (a : α) (hj : j ≤ l.length) (hp : p < l.length) : remL (insL l j a) (moreN p j false) = insL (remL l p) (lessN j p) a := by
  have h1 := ins_len l j a hj
  have h2 := rem_len l p hp
  apply List.ext_getElem?
  intro t
  unfold moreN lessN
  by_cases h : j ≤ p
  · rw [if_pos (by simp; omega), if_neg (by omega), rem_get (insL l j a) _ (by omega), ins_get (remL l p) _ _ (by omega)]
    simp only [ins_get l j a hj, rem_get l p hp]
    grind
  · rw [if_neg (by simp; omega), if_pos (by omega), rem_get (insL l j a) _ (by omega), ins_get (remL l p) _ _ (by omega)]
    simp only [ins_get l j a hj, rem_get l p hp]
    grind
theorem rem_ins_same (l : List α) (j : Nat) (a : α) (hj : j ≤ l.length) : remL (insL l j a) j = l := by
  have h1 := ins_len l j a hj
  apply List.ext_getElem?
  intro t
  rw [rem_get _ _ (by omega), ins_get _ _ _ hj, ins_get _ _ _ hj]
  grind
theorem rem_rem (l : List α) (i p : Nat) (hi : i < l.length) (hp : p < l.length) (hne : i ≠ p) : remL (remL l i) (lessN p i) = remL (remL l p) (lessN i p) := by
  have h1 := rem_len l i hi
  have h2 := rem_len l p hp
  apply List.ext_getElem?
  intro t
  unfold lessN
  rcases Nat.lt_or_gt_of_ne hne with h | h
  · rw [if_pos h, if_neg (by omega), rem_get (remL l i) _ (by omega), rem_get (remL l p) _ (by omega)]
    simp only [rem_get l i hi, rem_get l p hp]
    grind
  · rw [if_neg (by omega), if_pos h, rem_get (remL l i) _ (by omega), rem_get (remL l p) _ (by omega)]
    simp only [rem_get l i hi, rem_get l p hp]
    grind
theorem ins_set (l : List α) (i p : Nat) (v w : α) (hi : i ≤ l.length) (hp : p < l.length) : insL (l.set p w) i v = (insL l i v).set (moreN p i false) w := by
  have h1 := ins_len l i v hi
  apply List.ext_getElem?
  intro t
  rw [ins_get _ _ _ (by simpa using hi), List.getElem?_set, List.getElem?_set, List.getElem?_set, ins_get _ _ _ hi, h1]
  unfold moreN
  by_cases h : i ≤ p
  · rw [if_pos (show i < p ∨ i = p ∧ false = false by simp; omega)]
    grind
  · rw [if_neg (show ¬ (i < p ∨ i = p ∧ false = false) by simp; omega)]
    grind
theorem rem_set (l : List α) (i p : Nat) (w : α) (hi : i < l.length) (hp : p < l.length) (hne : p ≠ i) : remL (l.set p w) i = (remL l i).set (lessN p i) w := by
  have h1 := rem_len l i hi
  apply List.ext_getElem?
  intro t
  rw [rem_get _ _ (by simpa using hi), List.getElem?_set, List.getElem?_set, List.getElem?_set, rem_get _ _ hi, h1]
  unfold lessN
  grind
theorem rem_set_same (l : List α) (i : Nat) (w : α) (hi : i < l.length) : remL (l.set i w) i = remL l i := by
  apply List.ext_getElem?
  intro t
  rw [rem_get _ _ (by simpa using hi), List.getElem?_set, List.getElem?_set, rem_get _ _ hi]
  grind
theorem ins_set_same (l : List α) (i : Nat) (v w : α) (hi : i ≤ l.length) : (insL l i v).set i w = insL l i w := by
  have h1 := ins_len l i v hi
  apply List.ext_getElem?
  intro t
  rw [List.getElem?_set, ins_get _ _ _ hi, ins_get _ _ _ hi, h1]
  grind
theorem less_lt {p i n : Nat} (hp : p < n) (hi : i < n) (hne : p ≠ i) : lessN p i < n - 1 := by unfold lessN; split <;> omega
theorem less_le {p i n : Nat} (hp : p ≤ n) (hi : i < n) : lessN p i ≤ n - 1 := by unfold lessN; split <;> omega
theorem more_lt {p i n : Nat} (hp : p < n) (L : Bool) : moreN p i L < n + 1 := by unfold moreN; split <;> omega
theorem rem_at (l : List α) (i p : Nat) (hi : i < l.length) (hne : p ≠ i) : (remL l i)[lessN p i]? = l[p]? := by
  rw [rem_get _ _ hi]
  unfold lessN
  grind
theorem ins_at (l : List α) (j p : Nat) (a : α) (hj : j ≤ l.length) : (insL l j a)[moreN p j false]? = l[p]? := by
  rw [ins_get _ _ _ hj]
  unfold moreN
  grind
theorem ins_at_same (l : List α) (j : Nat) (a : α) (hj : j ≤ l.length) : (insL l j a)[j]? = some a := by
  rw [ins_get _ _ _ hj]; simp
theorem do_move' {l : List α} {c : Cm α} {a : α} (h : c.k = 7) (hi : l[c.i]? = some a) : doL l c = insL (remL l c.i) c.j a := by unfold doL; simp [h, hi]

theorem meets_half {l : List α} {x y : Cm α} (hx : okC l.length x) (hy : okC l.length y) (hxy : x.k ≤ y.k) (left : Bool) :
    doLs (doL l x) (turnG y x (!left)) = doLs (doL l y) (turnG x y left) := by
  obtain ⟨xk, xi, xj, xv⟩ := x
  obtain ⟨yk, yi, yj, yv⟩ := y
  simp only [okC] at hx hy hxy
  rcases hx with ⟨rfl, h1⟩ | ⟨rfl | rfl, h1⟩ | ⟨rfl, h1, h1'⟩ <;> rcases hy with ⟨rfl, h2⟩ | ⟨rfl | rfl, h2⟩ | ⟨rfl, h2, h2'⟩ <;> try (exfalso; omega)
  · -- Ins, Ins
    simp only [turnG, listK, staysN, gapN, doLs]
    simp only [doL]; simp
    have := ins_ins l xi yi xv yv h1 h2 (!left)
    simpa using this
  · -- Ins, Rem
    simp only [turnG, listK, staysN, gapN, doLs]
    simp [doL]
    exact rem_ins l xi yi xv h1 h2
  · -- Ins, Set
    have hl := ins_len l xi xv h1
    have e := more_lt (i := xi) h2 false
    simp only [turnG, listK, staysN, gapN]
    simp [doLs]
    rw [do_ins (c := ⟨4, xi, xj, xv⟩) rfl, do_set' (c := ⟨6, yi, yj, yv⟩) rfl h2, do_set' rfl (by rw [hl]; exact e), do_ins rfl]
    exact (ins_set l xi yi xv yv h1 h2).symm
  · -- Ins, Move
    have hl := ins_len l xi xv h1
    have e := more_lt (i := xi) h2 false
    have hr := rem_len l yi h2
    simp only [turnG, listK, staysN, gapN]
    simp [doLs]
    rw [do_ins (c := ⟨4, xi, xj, xv⟩) rfl, do_move (c := ⟨7, yi, yj, yv⟩) rfl h2, do_move' (a := l[yi]) rfl (by simp only; rw [ins_at _ _ _ _ h1]; exact List.getElem?_eq_getElem h2), do_ins rfl]
    simp only
    rw [rem_ins _ _ _ _ h1 h2]
    have := ins_ins (remL l yi) (lessN xi yi) yj xv l[yi] (by rw [hr]; exact less_le h1 h2) (by omega) (!left)
    simpa using this
  · -- Rem, Rem
    by_cases e : xi = yi
    · subst e
      simp [turnG, listK, staysN, doLs, doL]
    · have e' : ¬ yi = xi := fun h => e h.symm
      simp only [turnG, listK, staysN, gapN]
      simp [doLs, doL, e, e']
      exact rem_rem l xi yi h1 h2 e
  · -- Rem, Set
    by_cases e : xi = yi
    · subst e
      simp only [turnG, listK, staysN, gapN]
      simp [doLs]
      rw [do_rem (c := ⟨5, xi, xj, xv⟩) (l := l) rfl, do_set' (c := ⟨6, xi, yj, yv⟩) rfl h1, do_rem rfl]
      exact (rem_set_same l xi yv h1).symm
    · have e' : ¬ yi = xi := fun h => e h.symm
      have hr := rem_len l xi h1
      simp only [turnG, listK, staysN, gapN]
      simp [doLs, e, e']
      rw [do_rem (c := ⟨5, xi, xj, xv⟩) rfl, do_set' (c := ⟨6, yi, yj, yv⟩) rfl h2, do_set' rfl (by rw [hr]; exact less_lt h2 h1 e'), do_rem rfl]
      exact (rem_set l xi yi yv h1 h2 e').symm
  · -- Rem, Move
    by_cases e : xi = yi
    · subst e
      have hr := rem_len l xi h1
      simp only [turnG, listK, staysN, gapN]
      simp [doLs]
      rw [do_rem (c := ⟨5, xi, xj, xv⟩) (l := l) rfl, do_move (c := ⟨7, xi, yj, yv⟩) rfl h2, do_rem rfl]
      exact (rem_ins_same _ _ _ (by simp only; omega)).symm
    · have e' : ¬ yi = xi := fun h => e h.symm
      have hr := rem_len l yi h2
      simp only [turnG, listK, staysN, gapN]
      simp [doLs, e, e']
      rw [do_rem (c := ⟨5, xi, xj, xv⟩) rfl, do_move (c := ⟨7, yi, yj, yv⟩) rfl h2, do_move' (a := l[yi]) rfl (by simp only; rw [rem_at _ _ _ h1 e']; exact List.getElem?_eq_getElem h2), do_rem rfl]
      simp only
      rw [rem_ins _ _ _ _ (by omega) (by rw [hr]; exact less_lt h1 h2 e), rem_rem l xi yi h1 h2 e]
  · -- Set, Set
    by_cases e : xi = yi
    · subst e
      cases left <;> simp only [turnG, listK, staysN, gapN] <;> simp [doLs]
      · rw [do_set' (c := ⟨6, xi, xj, xv⟩) rfl h1, do_set' (c := ⟨6, xi, yj, yv⟩) (l := l) rfl h2, do_set' rfl (by simpa using h2)]; simp
      · rw [do_set' (c := ⟨6, xi, xj, xv⟩) (l := l) rfl h1, do_set' (c := ⟨6, xi, yj, yv⟩) rfl h2, do_set' rfl (by simpa using h2)]; simp
    · have e' : ¬ yi = xi := fun h => e h.symm
      simp only [turnG, listK, staysN, gapN]
      simp [doLs, e, e']
      rw [do_set' (l := l) (c := ⟨6, xi, xj, xv⟩) rfl h1, do_set' (l := l) (c := ⟨6, yi, yj, yv⟩) rfl h2, do_set' rfl (by simpa using h2), do_set' rfl (by simpa using h1)]
      exact List.set_comm _ _ e
  · -- Set, Move
    have hr := rem_len l yi h2
    by_cases e : xi = yi
    · subst e
      simp only [turnG, listK, staysN, gapN]
      simp [doLs]
      rw [do_set' (l := l) (c := ⟨6, xi, xj, xv⟩) rfl h1, do_move (l := l) (c := ⟨7, xi, yj, yv⟩) rfl h2, do_move' (a := xv) rfl (by simp [h1]), do_set' rfl (by simp only; rw [ins_len _ _ _ (by omega)]; omega)]
      simp only
      rw [rem_set_same _ _ _ h1, ins_set_same _ _ _ _ (by omega)]
    · have e' : ¬ yi = xi := fun h => e h.symm
      simp only [turnG, listK, staysN, gapN]
      simp [doLs, e, e']
      rw [do_set' (l := l) (c := ⟨6, xi, xj, xv⟩) rfl h1, do_move (l := l) (c := ⟨7, yi, yj, yv⟩) rfl h2, do_move' (a := l[yi]) rfl (by simp [e, h2]), do_set' rfl (by simp only; rw [ins_len _ _ _ (by omega)]; have := more_lt (i := yj) (less_lt h1 h2 e) false; omega)]
      simp only
      rw [rem_set _ _ _ _ h2 h1 e, ins_set _ _ _ _ _ (by omega) (by rw [hr]; exact less_lt h1 h2 e)]
  · -- Move, Move
    have hr := rem_len l yi h2
    have hq := rem_len l xi h1
    by_cases e : xi = yi
    · subst e
      cases left <;> simp only [turnG, listK, staysN, gapN] <;> simp [doLs]
      · rw [do_move (l := l) (c := ⟨7, xi, xj, xv⟩) rfl h1, do_move (l := l) (c := ⟨7, xi, yj, yv⟩) rfl h2, do_move' (a := l[xi]) rfl (by simp only; exact ins_at_same _ _ _ (by omega))]
        simp only
        rw [rem_ins_same _ _ _ (by omega)]
      · rw [do_move (l := l) (c := ⟨7, xi, xj, xv⟩) rfl h1, do_move (l := l) (c := ⟨7, xi, yj, yv⟩) rfl h2, do_move' (a := l[xi]) rfl (by simp only; exact ins_at_same _ _ _ (by omega))]
        simp only
        rw [rem_ins_same _ _ _ (by omega)]
    · have e' : ¬ yi = xi := fun h => e h.symm
      have f1 := less_lt h1 h2 e
      have f2 := less_lt h2 h1 e'
      simp only [turnG, listK, staysN, gapN]
      simp [doLs, e, e']
      rw [do_move (l := l) (c := ⟨7, xi, xj, xv⟩) rfl h1, do_move (l := l) (c := ⟨7, yi, yj, yv⟩) rfl h2,
        do_move' (a := l[yi]) rfl (by simp only; rw [ins_at _ _ _ _ (by omega), rem_at _ _ _ h1 e']; exact List.getElem?_eq_getElem h2),
        do_move' (a := l[xi]) rfl (by simp only; rw [ins_at _ _ _ _ (by omega), rem_at _ _ _ h2 e]; exact List.getElem?_eq_getElem h1)]
      simp only
      rw [rem_ins _ _ _ _ (by omega) (by omega), rem_ins _ _ _ _ (by omega) (by omega), rem_rem l xi yi h1 h2 e]
      have hrr : (remL (remL l yi) (lessN xi yi)).length = l.length - 2 := by rw [rem_len _ _ (by omega)]; omega
      have := ins_ins (remL (remL l yi) (lessN xi yi)) (lessN xj (lessN yi xi)) (lessN yj (lessN xi yi)) l[xi] l[yi] (by rw [hrr]; have := less_le (n := l.length - 1) (p := xj) (i := lessN yi xi) (by omega) (by omega); omega) (by rw [hrr]; have := less_le (n := l.length - 1) (p := yj) (i := lessN xi yi) (by omega) (by omega); omega) (!left)
      simpa using this
theorem meets {l : List α} {x y : Cm α} (hx : okC l.length x) (hy : okC l.length y) (left : Bool) :
    doLs (doL l x) (turnG y x (!left)) = doLs (doL l y) (turnG x y left) := by
  rcases Nat.le_total x.k y.k with h | h
  · exact meets_half hx hy h left
  · have := meets_half hy hx h (!left)
    simpa using this.symm
end Go.Proofs.YthnljaheplhbkaaDoor
