/- What SumTurns' last region has in its slots, operation by operation. -/
import Derived.Test.YtdagpmmachaeaaaLawSP
import Derived.Test.YtdagpmmachaeaaaRegI
namespace Go.Proofs.Ytdagpmmachaeaaa
open Go Go.RowKit
set_option linter.unusedSimpArgs false
set_option linter.unusedVariables false

def upd (v : Nat → Value) (i : Nat) (u : Value) : Nat → Value := fun j => if j = i then u else v j
/-- A row of one list. -/
def Boxed (W : World) (u s : Value) : Prop := ∃ b, u = .slice (some ⟨b, 0, none⟩) 1 1 ∧ b < W.heap.size ∧ W.cell? ⟨b, 0, none⟩ = some s
theorem Boxed.keep {W W' : World} {u s : Value} (h : Boxed W u s) (hb : Below W.heap.size W W') : Boxed W' u s := by
  obtain ⟨b, rfl, hlt, hc⟩ := h
  exact ⟨b, rfl, Nat.lt_of_lt_of_le hlt hb.size, by rw [hb.cell (p := ⟨b, 0, none⟩) hlt]; exact hc⟩
theorem Boxed.new (W : World) (s : Value) : Boxed (W.alloc (.cells #[s] 22)) (.slice (some ⟨W.heap.size, 0, none⟩) 1 1) s :=
  ⟨_, rfl, by simp, (Whole.new W 22 #[s]).cell 0⟩
theorem sum_box {W : World} {u : Value} {hi n c : Nat} {A : Option Addr} {bs : List Int} (h : Boxed W u (.slice A n c)) (hn : n = bs.length) (h1 : Bytes hi W A bs) (hh : hi ≤ W.heap.size) (hs : Short bs) :
    Calls Try.prog 14 #[u] W fun e w' => e = .returned (.int .u32 (sumN [bs])) ∧ W = w' := by
  subst hn
  obtain ⟨b, rfl, hlt, hc⟩ := h
  exact sum_one_at A c bs hc h1 hlt hh hs
structure Sts where
  A : Option Addr
  B : Option Addr
  lx : Nat
  ca : Nat
  ly : Nat
  cb : Nat
  n : Nat
  g : Nat
  d : Nat
  g3 : Nat
  d3 : Nat
  p : Nat
  q : Nat
  r : Nat
  s : Nat
def Sts.F (S : Sts) (W : World) : Nat → Value → Prop
  | 0, x => x = .slice S.A S.lx S.ca
  | 1, x => x = .int .i64 S.n
  | 2, x => x = .slice (cutAt S.A 0 S.ca) S.n S.ca
  | 3, x => Boxed W x (.slice (cutAt S.A 0 S.ca) S.n S.ca)
  | 4, x => x = .int .u32 S.p
  | 5, x => x = .slice (some ⟨S.g, 0, none⟩) S.n S.d
  | 6, x => Boxed W x (.slice (some ⟨S.g, 0, none⟩) S.n S.d)
  | 7, x => x = .int .u32 S.q
  | 8, x => x = .int .u32 ((S.p ^^^ S.q : Nat) : Int)
  | 9, x => x = .slice S.B S.ly S.cb
  | 10, x => x = .int .i64 S.n
  | 11, x => x = .slice (cutAt S.B 0 S.cb) S.n S.cb
  | 12, x => Boxed W x (.slice (cutAt S.B 0 S.cb) S.n S.cb)
  | 13, x => x = .int .u32 S.r
  | 14, x => x = .slice (some ⟨S.g3, 0, none⟩) S.n S.d3
  | 15, x => Boxed W x (.slice (some ⟨S.g3, 0, none⟩) S.n S.d3)
  | 16, x => x = .int .u32 S.s
  | 17, x => x = .int .u32 ((S.r ^^^ S.s : Nat) : Int)
  | 18, x => x = .bool true
  | 19, x => x = .bool true
  | _, _ => True
theorem Sts.keep {S : Sts} {W W' : World} (hb : Below W.heap.size W W') : ∀ {j : Nat} {x : Value}, S.F W j x → S.F W' j x
  | 0, _, h | 1, _, h | 2, _, h | 4, _, h | 5, _, h | 7, _, h | 8, _, h | 9, _, h | 10, _, h | 11, _, h | 13, _, h | 14, _, h | 16, _, h | 17, _, h | 18, _, h | 19, _, h => h
  | 3, _, h | 6, _, h | 12, _, h | 15, _, h => Boxed.keep h hb
  | _ + 20, _, _ => trivial
def dstN (i : Nat) : Nat := if i = 19 then 8 else 65 + i
/-- What holds of the operations that have been. -/
def Sts.All (S : Sts) (W : World) (ls : Array Bool) (v : Nat → Value) : Prop := ls.size = 20 ∧ ∀ j, j < 20 → ls.getD j false = true → S.F W j (v (dstN j))
theorem Sts.step {S : Sts} {W W' : World} {ls : Array Bool} {v : Nat → Value} (h : S.All W ls v) (hb : Below W.heap.size W W') {i : Nat} (hi : i < 20) {u : Value} (hu : S.F W' i u) :
    S.All W' (ls.setIfInBounds i true) (upd v (dstN i) u) := by
  refine ⟨by rw [Array.size_setIfInBounds]; exact h.1, fun j hj hl => ?_⟩
  by_cases e : j = i
  · subst e
    unfold upd; rw [if_pos rfl]; exact hu
  · have e2 : dstN j ≠ dstN i := by unfold dstN; split <;> split <;> omega
    unfold upd; rw [if_neg e2]
    refine Sts.keep hb (h.2 j hj ?_)
    rw [Array.getD_eq_getD_getElem?, Array.getElem?_setIfInBounds_ne (Ne.symm e), ← Array.getD_eq_getD_getElem?] at hl
    exact hl
end Go.Proofs.Ytdagpmmachaeaaa
