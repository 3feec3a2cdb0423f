/- The document's own disk in memory: its box, its list, where its files' bytes stand. -/
import Derived.Test.YtkieacidpiffpaaDskV
import Derived.Deep.AppendLies
namespace Go.Proofs.Ytkieacidpiffpaa
open Go Go.RowKit Go.Shelf
set_option linter.unusedVariables false
set_option linter.unusedSimpArgs false

/-- A file of the list, with where its bytes stand. -/
structure Rf where
  vw : Vw
  A : Option Addr
  c : Nat
def cellsF : List Rf → List Value
  | [] => []
  | f :: r => .string f.vw.name :: .slice f.A f.vw.has.length f.c :: .int .i64 f.vw.lasts :: cellsF r
def rvs (fs : List Rf) : List Vw := fs.map Rf.vw
theorem cellsF_length : ∀ fs : List Rf, (cellsF fs).length = fs.length * 3
  | [] => rfl
  | f :: r => by simp only [cellsF, List.length_cons, cellsF_length r]; omega
theorem cellsF_append : ∀ a b : List Rf, cellsF (a ++ b) = cellsF a ++ cellsF b
  | [], b => rfl
  | f :: r, b => by simp only [cellsF, List.cons_append, cellsF_append r b]
theorem cellsF_take : ∀ (fs : List Rf) (k : Nat), (cellsF fs).take (k * 3) = cellsF (fs.take k)
  | [], k => by simp [cellsF]
  | f :: r, 0 => by simp [cellsF]
  | f :: r, k + 1 => by
    rw [show (k + 1) * 3 = k * 3 + 3 by omega]
    simp only [cellsF, List.take_succ_cons, cellsF_take r k]
theorem cellsF_drop : ∀ (fs : List Rf) (k : Nat), (cellsF fs).drop (k * 3) = cellsF (fs.drop k)
  | [], k => by simp [cellsF]
  | f :: r, 0 => by simp [cellsF]
  | f :: r, k + 1 => by
    rw [show (k + 1) * 3 = k * 3 + 3 by omega]
    simp only [cellsF, List.drop_succ_cons, cellsF_drop r k]
theorem cellsF_get : ∀ {fs : List Rf} {i : Nat} {f : Rf}, fs[i]? = some f → (cellsF fs)[i * 3]? = some (.string f.vw.name) ∧ (cellsF fs)[i * 3 + 1]? = some (.slice f.A f.vw.has.length f.c) ∧ (cellsF fs)[i * 3 + 2]? = some (.int .i64 f.vw.lasts)
  | [], i, f, h => by simp at h
  | g :: r, 0, f, h => by simp only [List.getElem?_cons_zero, Option.some.injEq] at h; subst h; exact ⟨rfl, rfl, rfl⟩
  | g :: r, i + 1, f, h => by
    have := cellsF_get (fs := r) (i := i) (f := f) (by simpa using h)
    rw [show (i + 1) * 3 = i * 3 + 3 by omega]
    exact this
theorem cellsF_set1 : ∀ {fs : List Rf} {i : Nat} {f : Rf} (bs : List Int) (A : Option Addr) (c : Nat), fs[i]? = some f → (cellsF fs).set (i * 3 + 1) (.slice A bs.length c) = cellsF (fs.set i ⟨{ f.vw with has := bs }, A, c⟩)
  | [], i, f, _, _, _, h => by simp at h
  | g :: r, 0, f, bs, A, c, h => by simp only [List.getElem?_cons_zero, Option.some.injEq] at h; subst h; rfl
  | g :: r, i + 1, f, bs, A, c, h => by
    have := cellsF_set1 (fs := r) (i := i) (f := f) bs A c (by simpa using h)
    rw [show (i + 1) * 3 + 1 = i * 3 + 1 + 1 + 1 + 1 by omega]
    simp only [cellsF, List.set_cons_succ, this]
theorem cellsF_set2 : ∀ {fs : List Rf} {i : Nat} {f : Rf} (n : Nat), fs[i]? = some f → (cellsF fs).set (i * 3 + 2) (.int .i64 n) = cellsF (fs.set i { f with vw := { f.vw with lasts := n } })
  | [], i, f, _, h => by simp at h
  | g :: r, 0, f, n, h => by simp only [List.getElem?_cons_zero, Option.some.injEq] at h; subst h; rfl
  | g :: r, i + 1, f, n, h => by
    have := cellsF_set2 (fs := r) (i := i) (f := f) n (by simpa using h)
    rw [show (i + 1) * 3 + 2 = i * 3 + 2 + 1 + 1 + 1 by omega]
    simp only [cellsF, List.set_cons_succ, this]
theorem cellsF_one (fs : List Rf) : ∀ u ∈ cellsF fs, u.oneCell' = true := by
  induction fs with
  | nil => intro u hu; cases hu
  | cons f r ih =>
    intro u hu
    simp only [cellsF, List.mem_cons] at hu
    rcases hu with rfl | rfl | rfl | hu
    · rfl
    · rfl
    · rfl
    · exact ih u hu

/-- The document's disk, plain. -/
structure Rm where
  room : Nat
  fs : List Vw
  on : Bool
  left : Int
  dead : Bool
structure Rk where
  B : Nat
  F : Value
  room : Nat
  fs : List Rf
  on : Bool
  left : Int
  dead : Bool
def Rk.rm (r : Rk) : Rm := ⟨r.room, rvs r.fs, r.on, r.left, r.dead⟩
def Rk.wr (r : Rk) (i : Nat) : Prop := i = r.B ∨ r.F.ownBlock = some i
def Rf.at_ (f : Rf) (i : Nat) : Prop := f.vw.has ≠ [] ∧ ∃ a, f.A = some a ∧ a.block = i
def Rk.own (r : Rk) (i : Nat) : Prop := r.wr i ∨ ∃ f ∈ r.fs, f.at_ i
structure RkAt (w : World) (r : Rk) : Prop where
  box : Whole w r.B 74 #[.int .i64 r.room, r.F, .bool r.on, .int .i64 r.left, .bool r.dead]
  row : w.ownsRow 0 87 3 r.F r.fs.length (cellsF r.fs)
  bf : r.F.ownBlock ≠ some r.B
  bytes : ∀ f ∈ r.fs, Src r.wr w f.A f.vw.has
  cap : ∀ f ∈ r.fs, f.vw.has.length ≤ f.c
  lasts : ∀ f ∈ r.fs, f.vw.lasts ≤ f.vw.has.length
  byte : ∀ f ∈ r.fs, Byte f.vw.has
  name : ∀ f ∈ r.fs, f.vw.name.size ≤ 30
  used : sizes (rvs r.fs) ≤ r.room
  room : r.room ≤ 1048576
  many : r.fs.length ≤ 64
  left : -1 ≤ r.left ∧ r.left ≤ 9223372036854775807
section
variable {w w' : World} {r : Rk}
theorem RkAt.at_lt (h : RkAt w r) {f : Rf} (hf : f ∈ r.fs) {i : Nat} (hi : f.at_ i) : i < w.heap.size ∧ ¬ r.wr i := by
  obtain ⟨hne, a, e, rfl⟩ := hi
  obtain ⟨b, o, e2, hn, hb, _⟩ := h.bytes f hf hne
  rw [e] at e2; cases e2
  exact ⟨hb, hn⟩
theorem RkAt.lt (h : RkAt w r) {i : Nat} (ho : r.own i) : i < w.heap.size := by
  rcases ho with (rfl | ho) | ⟨f, hf, ho⟩
  · exact h.box.lt
  · exact (h.row.lt i ho).2
  · exact (h.at_lt hf ho).1
theorem Src.of_eq {own : Nat → Prop} {A : Option Addr} {bs : List Int} (h : Src own w A bs) (hb : ∀ i, bs ≠ [] → (∃ a, A = some a ∧ a.block = i) → w'.heap[i]? = w.heap[i]?) : Src own w' A bs := fun hne => by
  obtain ⟨b, o, rfl, hn, hlt, hc⟩ := h hne
  have he := hb b hne ⟨_, rfl, rfl⟩
  have h1 : b < w'.heap.size := by
    rcases Nat.lt_or_ge b w'.heap.size with h2 | h2
    · exact h2
    · rw [Array.getElem?_eq_none h2, Array.getElem?_eq_getElem hlt] at he; cases he
  exact ⟨b, o, rfl, hn, h1, fun i x hi => (World.cell?_of_block (a := ⟨b, o + i, none⟩) he).trans (hc i x hi)⟩
theorem row_of_eq {base size n : Nat} {e : TypeId} {v : Value} {xs : List Value} (h : w.ownsRow base e size v n xs) (hb : ∀ k, v.ownBlock = some k → w'.heap[k]? = w.heap[k]?) : w'.ownsRow base e size v n xs := by
  refine ⟨h.1, h.2.imp id ?_⟩
  rintro ⟨g, cap, cur, rfl, hg, hw, q⟩
  exact ⟨g, cap, cur, rfl, hg, Eq.trans (hb g rfl) hw, q⟩
theorem RkAt.keep (h : RkAt w r) (hb : ∀ i, r.own i → w'.heap[i]? = w.heap[i]?) : RkAt w' r :=
  ⟨h.box.of_eq (hb _ (.inl (.inl rfl))), row_of_eq h.row fun k hk => hb k (.inl (.inr hk)), h.bf, fun f hf => (h.bytes f hf).of_eq fun i hne ha => hb i (.inr ⟨f, hf, hne, ha⟩), h.cap, h.lasts, h.byte, h.name, h.used, h.room, h.many, h.left⟩
theorem RkAt.below (h : RkAt w r) (hb : Below w.heap.size w w') : RkAt w' r := h.keep fun i hi => hb.block i (h.lt hi)
theorem RkAt.put (h : RkAt w r) (on : Bool) (left : Int) (dead : Bool) (hl : -1 ≤ left ∧ left ≤ 9223372036854775807) {i : Nat} {u : Value}
    (hb : (#[.int .i64 r.room, r.F, .bool r.on, .int .i64 r.left, .bool r.dead] : Array Value).setIfInBounds i u = #[.int .i64 r.room, r.F, .bool on, .int .i64 left, .bool dead]) : RkAt (w.setCell ⟨r.B, i, none⟩ u) { r with on := on, left := left, dead := dead } := by
  have he : ∀ j, j ≠ r.B → (w.setCell ⟨r.B, i, none⟩ u).heap[j]? = w.heap[j]? := fun j hj => Below.heap_setCell _ _ _ _ hj
  exact ⟨hb ▸ h.box.put i u, row_of_eq h.row fun k hk => he k fun e => h.bf (e ▸ hk), h.bf, fun f hf => (h.bytes f hf).of_eq fun i hne ha => he i fun e => (h.at_lt hf ⟨hne, ha⟩).2 (.inl e), h.cap, h.lasts, h.byte, h.name, h.used, h.room, h.many, hl⟩
theorem RkAt.shape (h : RkAt w r) : ∃ A c, r.F = .slice A r.fs.length c ∧ w.cell? ⟨r.B, 0, none⟩ = some (.int .i64 r.room) ∧ w.cell? ⟨r.B, 1, none⟩ = some (.slice A r.fs.length c) ∧ w.cell? ⟨r.B, 2, none⟩ = some (.bool r.on) ∧ w.cell? ⟨r.B, 3, none⟩ = some (.int .i64 r.left) ∧ w.cell? ⟨r.B, 4, none⟩ = some (.bool r.dead) ∧ (∀ i, w.frozen? ⟨r.B, i, none⟩ = false) := by
  have hF : ∃ A c, r.F = .slice A r.fs.length c := by
    rcases h.row.2 with ⟨e, hn⟩ | ⟨g, cap, cur, e, _⟩
    · exact ⟨none, 0, by rw [e, hn]⟩
    · exact ⟨_, _, e⟩
  obtain ⟨A, c, hF⟩ := hF
  refine ⟨A, c, hF, by rw [h.box.cell]; rfl, by rw [h.box.cell]; show some r.F = _; rw [hF], by rw [h.box.cell]; rfl, by rw [h.box.cell]; rfl, by rw [h.box.cell]; rfl, fun i => h.box.frozen i⟩
theorem RkAt.file (h : RkAt w r) {i : Nat} {f : Rf} (hi : r.fs[i]? = some f) : ∃ g c, r.F = .slice (some ⟨g, 0, none⟩) r.fs.length c ∧ w.cell? ⟨r.B, 1, none⟩ = some (.slice (some ⟨g, 0, none⟩) r.fs.length c) ∧
    w.cell? ⟨g, i * 3, none⟩ = some (.string f.vw.name) ∧ w.cell? ⟨g, i * 3 + 1, none⟩ = some (.slice f.A f.vw.has.length f.c) ∧ w.cell? ⟨g, i * 3 + 2, none⟩ = some (.int .i64 f.vw.lasts) ∧ (∀ j, w.frozen? ⟨g, j, none⟩ = false) ∧ g ≠ r.B := by
  have hlt : i < r.fs.length := (List.getElem?_eq_some_iff.1 hi).1
  rcases h.row.2 with ⟨_, hn⟩ | ⟨g, cap, cur, hF, _⟩
  · omega
  have h1 := h.row
  rw [hF] at h1
  obtain ⟨g0, g1, g2⟩ := cellsF_get hi
  refine ⟨g, cap, hF, by rw [h.box.cell]; show some r.F = _; rw [hF], (h1.cellAt _ (by omega)).trans g0, (h1.cellAt _ (by omega)).trans g1, (h1.cellAt _ (by omega)).trans g2, h1.frozenAt, fun e => h.bf (by rw [hF]; exact congrArg some e)⟩
end

/-! ### found, counted, summed up -/
def idxR : List Vw → ByteArray → Option Nat
  | [], _ => none
  | f :: r, s => if f.name = s then some 0 else (idxR r s).map (· + 1)
def idxI (o : Option Nat) : Int := match o with | none => -1 | some k => k
theorem idxR_at : ∀ {fs : List Vw} {s : ByteArray} {k : Nat}, (∀ j f, j < k → fs[j]? = some f → f.name ≠ s) → (∃ f, fs[k]? = some f ∧ f.name = s) → idxR fs s = some k
  | [], s, k, _, h => by obtain ⟨f, h, _⟩ := h; simp at h
  | g :: r, s, 0, _, h => by
    obtain ⟨f, h, e⟩ := h
    simp only [List.getElem?_cons_zero, Option.some.injEq] at h
    subst h
    simp [idxR, e]
  | g :: r, s, k + 1, hn, h => by
    have h0 := hn 0 g (by omega) rfl
    rw [idxR, if_neg h0, idxR_at (fs := r) (k := k) (fun j f hj hf => hn (j + 1) f (by omega) (by simpa using hf)) (by simpa using h)]
    rfl
theorem idxR_none : ∀ {fs : List Vw} {s : ByteArray}, (∀ (j : Nat) (f : Vw), fs[j]? = some f → f.name ≠ s) → idxR fs s = none
  | [], s, _ => rfl
  | g :: r, s, hn => by
    rw [idxR, if_neg (hn 0 g rfl), idxR_none (fs := r) (fun j f hf => hn (j + 1) f (by simpa using hf))]
    rfl
theorem idxR_some : ∀ {fs : List Vw} {s : ByteArray} {k : Nat}, idxR fs s = some k → ∃ f, fs[k]? = some f ∧ f.name = s
  | [], s, k, h => by simp [idxR] at h
  | g :: r, s, k, h => by
    by_cases e : g.name = s
    · rw [idxR, if_pos e] at h
      cases h
      exact ⟨g, rfl, e⟩
    · rw [idxR, if_neg e] at h
      cases h2 : idxR r s with
      | none => rw [h2] at h; cases h
      | some j =>
        rw [h2] at h
        cases h
        simpa using idxR_some h2
end Go.Proofs.Ytkieacidpiffpaa
