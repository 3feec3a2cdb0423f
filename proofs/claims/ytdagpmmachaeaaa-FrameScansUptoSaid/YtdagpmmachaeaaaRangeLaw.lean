/- A range over a function whose rounds are due one by one: what is due, and what a round makes of it, is said of the very element that comes; the function may keep cells of its own, and the body may write what it likes, so long as each leaves what is no cells. -/
import Derived.RangeFuncNested
import Derived.RangeFuncBound
import Derived.RangeFuncLeaves
namespace Go.Proofs.Ytdagpmmachaeaaa
open Go Go.RowKit
set_option linter.unusedVariables false
set_option linter.unusedSimpArgs false
variable {P : Program} {F : Fence} {n : Nat}

/-- A statement that abides a turn of a loop's record, or of the block beside it, from block B on. -/
def Apart (B : Nat) (I : World → Prop) : Prop := ∀ (W : World) (l : Nat) (o o' : Obj), B ≤ l → W.heap[l]? = some o → o.isCells = false → o'.isCells = false → I W → I (W.putObj l o')

/-- How the body of a round may be left. -/
def duePost {α : Type} (B : Nat) (Post : α → World → Prop) (Stop : Code → World → Prop) (x : α) (W : World) : Exit → Act → World → Prop
  | .normal, _, W' => KeepsFrom B W W' ∧ Post x W'
  | .ret, _, W' => KeepsFrom B W W' ∧ Stop .ret W'
  | .exit id, _, W' => KeepsFrom B W W' ∧ Stop (.exit id) W'
  | .goto t, _, W' => KeepsFrom B W W' ∧ Stop (.goto t) W'
  | .panic _, _, _ => False
  | .outgrown, _, _ => False

/-- What the function that is ranged over owes, from the world W on: it calls yield (of loop l) where a round is due. -/
def Dues {α : Type} (F : Fence) (n : Nat) (P : Program) (g : Nat) (lb : Array Value) (encs : α → Array Value) (B : Nat) (Pre Post : α → World → Prop) (Fin : World → Prop) (l : Nat) (W : World) : Prop :=
  ∀ (Jx : World → Prop),
    (∀ x W1, Pre x W1 → KeepsFrom B W W1 → YieldAt F (n - 1) P l (encs x) W1 fun e W' => (e = .returned (.bool true) ∧ KeepsFrom B W1 W' ∧ Post x W') ∨ (e = .returned (.bool false) ∧ Jx W')) →
    CallsIn F n P g (#[.func (.yield l) #[] #[]] ++ lb) W fun e W' => (∃ v, e = .returned v) ∧ ((KeepsFrom B W W' ∧ Fin W') ∨ Jx W')

theorem range_law {α : Type} {g : Operand} {ps : Array Tmp} {assign body : Code} {Q : Exit → Act → World → Prop} {a : Act} {w : World}
    (hro : F.round = none) (h1 : 1 ≤ n) {gf : Nat} {lb : Array Value} (hg : a.eval g = .func (.func gf) #[] lb) (hFg : F.fn gf) (eg : ∀ args w, (callFunc gf args).run P w = .ok (.enter gf args) w)
    (encs : α → Array Value) (hps : ∀ x, (encs x).size = ps.size)
    (Pre Post : α → World → Prop) (Stop : Code → World → Prop) (Fin : World → Prop)
    (hPre : ∀ x, Apart w.heap.size (Pre x)) (hPost : ∀ x, Apart w.heap.size (Post x)) (hStop : ∀ c, Apart w.heap.size (Stop c)) (hFin : Apart w.heap.size Fin)
    (hseq : ∀ l W, l = w.heap.size + 1 → (∃ o o', o.isCells = false ∧ o'.isCells = false ∧ W = (w.alloc o).alloc o') → Dues F (n - 1) P gf lb encs w.heap.size Pre Post Fin l W)
    (a₁ : α → Act)
    (hassign : ∀ (l : Nat) (x : α) (W : World) (K : Act → World → Prop), K (a₁ x) W →
      assign.wpIn (F.inRound l) (n - 1 - 1) P (Exit.then K (fun _ _ _ => False)) { tmps := (ps.zip (encs x)).foldl (fun t (p, v) => t.setIfInBounds p v) a.tmps, defers := [] } W)
    (hbody : ∀ (l : Nat) (x : α) (W : World), Pre x W → body.wpIn (F.inRound l) (n - 1 - 1) P (duePost w.heap.size Post Stop x W) (a₁ x) W)
    (hdone : ∀ (D : Nat) (W : World), w.heap.size ≤ D → Fin W → W.heap[D]? = some (.deferred (some [])) → Q .normal { a with defers := { target := .collected D, args := #[] } :: a.defers } W)
    (hstop : ∀ (D : Nat) (c : Code) (W : World), w.heap.size ≤ D → Stop c W → W.heap[D]? = some (.deferred (some [])) → c.wpIn F n P Q { a with defers := { target := .collected D, args := #[] } :: a.defers } W) :
    (Code.rangeFunc g ps assign body).wpIn F n P Q a w := by
  refine wpIn_rangeFunc ?_
  intro fn hfn
  rw [hro]
  obtain ⟨rec, hrec⟩ : ∃ rec : LoopState → Option Code → Loop, rec = fun st pe => { state := st, pending := pe, fn, tmps := a.tmps, params := ps, assign, body, defers := w.heap.size } := ⟨_, rfl⟩
  have hpr : ∀ st pe, (rec st pe).params = ps := fun _ _ => by rw [hrec]
  obtain ⟨W0, hW0⟩ : ∃ W0, (w.alloc (.deferred (some []))).alloc (.loop (rec .ready none)) = W0 := ⟨_, rfl⟩
  have hL : W0.heap[w.heap.size + 1]? = some (.loop (rec .ready none)) := by
    rw [← hW0]; have := World.alloc_heap_new (w.alloc (.deferred (some []))) (.loop (rec .ready none)); rwa [World.size_alloc] at this
  have hK : W0.heap[w.heap.size]? = some (.deferred (some [])) := by
    rw [← hW0]; exact (Below.heap_alloc _ _ _ (by simp)).trans (World.alloc_heap_new w _)
  refine ⟨w.heap.size + 1, [{ target := .collected w.heap.size, args := #[] }], W0, { target := .fn (.func gf) lb, args := #[.func (.yield (w.heap.size + 1)) #[] #[]] }, W0, gf,
    #[.func (.yield (w.heap.size + 1)) #[] #[]] ++ lb, W0, ?_, ?_, ?_, ?_, fun _ => h1, ?_⟩
  · rw [← hW0, hrec]; exact run_enterLoop_outer _ _ _ _ _
  · simp only [resolve, hg]
    simp [go_sem]
  · intro f' hf'; simp [Target.leads] at hf'; subst hf'; exact hFg
  · simp [invoke, go_sem, eg]
  -- what the two blocks of book-keeping are, in any world that keeps them
  have kept : ∀ {A : World}, KeepsFrom w.heap.size W0 A → A.heap[w.heap.size + 1]? = some (.loop (rec .ready none)) ∧ A.heap[w.heap.size]? = some (.deferred (some [])) := fun h =>
    ⟨h.same _ _ (by omega) hL rfl, h.same _ _ (Nat.le_refl _) hK rfl⟩
  refine (hseq (w.heap.size + 1) W0 rfl ⟨_, _, rfl, rfl, hW0.symm⟩
    (fun W => ∃ c, Stop c W ∧ W.heap[w.heap.size + 1]? = some (.loop (rec .done (some c))) ∧ W.heap[w.heap.size]? = some (.deferred (some []))) ?_).mono ?_
  · -- one round
    intro x W hx hkW
    obtain ⟨hl, hk⟩ := kept hkW
    have hlt : w.heap.size + 1 < W.heap.size := (Array.getElem?_eq_some_iff.1 hl).1
    have hy := run_yield (P := P) (args := encs x) hl (by rw [hpr]; exact hps x)
    rw [hrec] at hy
    refine ⟨fn, _, assign, body, hy, roundIn_of_wpIn hfn (hassign _ x W _ ⟨_, run_beginRound hl (by rw [hrec]), ?_⟩)⟩
    obtain ⟨Wb, hWb⟩ : ∃ Wb, Wb = W.putObj (w.heap.size + 1) (.loop { rec .ready none with state := .busy }) := ⟨_, rfl⟩
    rw [← hWb]
    have hl2 : Wb.heap[w.heap.size + 1]? = some (.loop { rec .ready none with state := .busy }) := by rw [hWb]; exact World.putObj_heap_same hlt
    have hk2 : Wb.heap[w.heap.size]? = some (.deferred (some [])) := by rw [hWb]; exact (World.putObj_heap_other (by omega)).trans hk
    have hx2 : Pre x Wb := by rw [hWb]; exact hPre x W _ _ _ (by omega) hl rfl rfl hx
    refine wpIn_mono (hbody _ x Wb hx2) ?_
    -- the end of a round
    have fin : ∀ (jump : Option Code) (W3 : World), KeepsFrom w.heap.size Wb W3 →
        W3.heap[w.heap.size + 1]? = some (.loop { rec .ready none with state := .busy }) ∧
        (Instr.endRound (w.heap.size + 1) jump).run P W3 = .ok (.bool jump.isNone) (W3.putObj (w.heap.size + 1) (.loop (rec (if jump.isNone then .ready else .done) jump))) ∧
        (W3.putObj (w.heap.size + 1) (.loop (rec (if jump.isNone then .ready else .done) jump))).heap[w.heap.size + 1]? = some (.loop (rec (if jump.isNone then .ready else .done) jump)) ∧
        (W3.putObj (w.heap.size + 1) (.loop (rec (if jump.isNone then .ready else .done) jump))).heap[w.heap.size]? = some (.deferred (some [])) := fun jump W3 hk3 => by
      have hl3 := hk3.same _ _ (by omega) hl2 rfl
      have := run_endRound (P := P) jump hl3
      rw [hrec] at this ⊢
      rw [hrec] at hl3
      exact ⟨hl3, this, World.putObj_heap_same (Array.getElem?_eq_some_iff.1 hl3).1, (World.putObj_heap_other (by omega)).trans (hk3.same _ _ (Nat.le_refl _) hk2 rfl)⟩
    rintro e a3 W3 hp
    cases e with
    | normal =>
      obtain ⟨hk3, hi3⟩ := hp
      obtain ⟨hl3, hr, hl4, _⟩ := fin none W3 hk3
      refine ⟨_, _, hr, .inl ⟨rfl, ⟨?_, fun k o hB ho hc => ?_⟩, hPost x _ _ _ _ (by omega) hl3 rfl rfl hi3⟩⟩
      · have h1 := hk3.size
        rw [hWb] at h1
        simp at h1 ⊢
        exact h1
      · by_cases e : k = w.heap.size + 1
        · subst e
          rw [hl] at ho
          cases ho
          exact hl4
        · rw [World.putObj_heap_other (by omega)]
          refine hk3.same k o hB ?_ hc
          rw [hWb, World.putObj_heap_other (by omega)]
          exact ho
    | ret =>
      obtain ⟨hk3, hi3⟩ := hp
      obtain ⟨hl3, hr, hl4, hk4⟩ := fin (some .ret) W3 hk3
      exact ⟨_, _, hr, .inr ⟨rfl, .ret, hStop _ _ _ _ _ (by omega) hl3 rfl rfl hi3, hl4, hk4⟩⟩
    | exit id =>
      obtain ⟨hk3, hi3⟩ := hp
      obtain ⟨hl3, hr, hl4, hk4⟩ := fin (some (.exit id)) W3 hk3
      exact ⟨_, _, hr, .inr ⟨rfl, .exit id, hStop _ _ _ _ _ (by omega) hl3 rfl rfl hi3, hl4, hk4⟩⟩
    | goto t =>
      obtain ⟨hk3, hi3⟩ := hp
      obtain ⟨hl3, hr, hl4, hk4⟩ := fin (some (.goto t)) W3 hk3
      exact ⟨_, _, hr, .inr ⟨rfl, .goto t, hStop _ _ _ _ _ (by omega) hl3 rfl rfl hi3, hl4, hk4⟩⟩
    | panic ch => exact hp.elim
    | outgrown => exact hp.elim
  · -- behind the function
    rintro e W2 ⟨⟨v, rfl⟩, (⟨hkf, hf⟩ | ⟨c, hi, hl, hk⟩)⟩
    · obtain ⟨hl, hk⟩ := kept hkf
      exact ⟨none, _, by have := run_endLoop (P := P) hl (by rw [hrec]; simp); rw [hrec] at this; exact this, hdone _ _ (Nat.le_refl _) (hFin _ _ _ _ (by omega) hl rfl rfl hf) ((World.putObj_heap_other (by omega)).trans hk)⟩
    · exact ⟨some c, _, by have := run_endLoop (P := P) hl (by rw [hrec]; simp); rw [hrec] at this; exact this, hstop _ c _ (Nat.le_refl _) (hStop c _ _ _ _ (by omega) hl rfl rfl hi) ((World.putObj_heap_other (by omega)).trans hk)⟩
end Go.Proofs.Ytdagpmmachaeaaa
