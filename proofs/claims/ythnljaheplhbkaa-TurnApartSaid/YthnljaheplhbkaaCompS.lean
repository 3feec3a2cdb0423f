/- Same and Sound of a component, the program's. -/
import Derived.Test.YthnljaheplhbkaaCompM
import Derived.Test.YthnljaheplhbkaaPTools
import Derived.Test.YthnljaheplhbkaaBaseJ
import Derived.Laws.StructEq
namespace Go.Proofs.Ythnljaheplhbkaa
open Go Go.RowKit
set_option linter.unusedVariables false
set_option linter.unusedSimpArgs false

/-- A component in memory: its path, and its value. -/
structure Cc (W : World) (c : GC) (A AL AO : Option Addr) (cp cL cO : Nat) : Prop where
  path : Wy W A cp c.path
  v : Vl W c.v AL AO cL cO
theorem Cc.later {W W' : World} {c : GC} {A AL AO : Option Addr} {cp cL cO : Nat} (h : Cc W c A AL AO cp cL cO) (hb : Below W.heap.size W W') : Cc W' c A AL AO cp cL cO := ⟨h.path.later hb, h.v.later hb⟩
theorem wy_nil (W : World) : Wy W none 0 [] := ⟨fun h => absurd rfl h, Nat.le_refl _, by decide⟩
theorem vl_noG (W : World) : Vl W noG none none 0 0 := ⟨.inl ⟨rfl, rfl⟩, ⟨rfl, .inl ⟨rfl, rfl⟩⟩⟩
theorem cc_no (W : World) : Cc W noC none none none 0 0 0 := ⟨wy_nil W, vl_noG W⟩

theorem equal_apart (A B : Option Addr) (n m c d : Nat) (hnm : n ≠ m) (w : World) : Calls Try.prog 30 #[.slice A n c, .slice B m d] w fun e w' => e = .returned (.bool false) ∧ w' = w := by
  have h : ¬ (n : Int) = (m : Int) := by omega
  clear hnm
  go_enter Try.func30, Try.ntmps30
  go_wp2
  go_ret
  exact ⟨rfl, rfl⟩
theorem equal_steps {w : World} {A B : Option Addr} {c d : Nat} {ps qs : List GStep} (hP : Wy w A c ps) (hQ : Wy w B d qs) :
    Calls Try.prog 30 #[.slice A ps.length c, .slice B qs.length d] w fun e w' => e = .returned (.bool (samePB ps qs)) ∧ Below w.heap.size w w' := by
  by_cases hl : ps.length = qs.length
  · by_cases hq : qs = []
    · subst hq
      have hp : ps = [] := List.length_eq_zero_iff.1 (by simpa using hl)
      subst hp
      exact (equal_none A B c d w).mono fun e w' ⟨he, hw⟩ => ⟨by rw [he]; rfl, by rw [hw]; exact Below.refl _ _⟩
    · have hp : ps ≠ [] := by intro e; apply hq; rw [e] at hl; exact List.length_eq_zero_iff.1 (by simpa using hl.symm)
      have h1 := hP.le
      have h2 := hP.cap
      have h3 := hQ.le
      have h4 := hQ.cap
      unfold maxLen at h2 h4
      obtain ⟨⟨pb, po, sp⟩, rfl, hs, _, hpc⟩ := hP.steps hp
      obtain ⟨⟨qb, qo, sp'⟩, rfl, hs', _, hqc⟩ := hQ.steps hq
      simp only at hs hs'
      subst hs hs'
      have h := AnyQ.slices_Equal Try.equalS 3 Try.isAgg48 Try.sizeOf48 encG (fun _ => rfl) sameStep neq_step pb po ps.length c qb qo qs.length d ps qs w (Nat.le_refl _) (Nat.le_refl _) (by omega) (by omega) (cellsG hpc) (cellsG hqc)
      refine Calls.mono h fun e w' ⟨he, q, hw⟩ => ⟨?_, ?_⟩
      · rw [he, List.take_length, List.take_length]; simp [samePB, hl]
      · rw [hw]; exact ⟨rfl, rfl, rfl, Nat.le_refl _, fun _ _ => rfl⟩
  · exact (equal_apart A B _ _ c d hl w).mono fun e w' ⟨he, hw⟩ => ⟨by rw [he]; simp [samePB, hl], by rw [hw]; exact Below.refl _ _⟩
/-- Two components in two boxes. -/
structure CTwo (w W : World) (ca cb : Array Value) : Prop where
  a : Whole W w.heap.size 35 ca
  b : Whole W (w.heap.size + 1) 35 cb
  below : Below w.heap.size w W
theorem CTwo.new (w : World) (ca cb : Array Value) : CTwo w ((w.alloc (.cells ca 35)).alloc (.cells cb 35)) ca cb :=
  ⟨(Whole.new w 35 ca).alloc _, by have := Whole.new (w.alloc (.cells ca 35)) 35 cb; rwa [World.size_alloc] at this, ((Below.refl _ _).alloc (Nat.le_refl _) _).alloc (by simp) _⟩
theorem CTwo.step {w W W' : World} {ca cb : Array Value} (h : CTwo w W ca cb) (hb : Below W.heap.size W W') : CTwo w W' ca cb :=
  ⟨h.a.below hb h.a.lt, h.b.below hb h.b.lt, h.below.trans (hb.mono h.below.size)⟩
theorem CTwo.put {w W : World} {ca cb : Array Value} (h : CTwo w W ca cb) (i : Nat) (u : Value) : CTwo w (W.setCell ⟨w.heap.size + 1, i, none⟩ u) ca (cb.setIfInBounds i u) :=
  ⟨h.a.far (by simp) u, h.b.put i u, h.below.setCell (Nat.le_succ _) u⟩
end Go.Proofs.Ythnljaheplhbkaa
