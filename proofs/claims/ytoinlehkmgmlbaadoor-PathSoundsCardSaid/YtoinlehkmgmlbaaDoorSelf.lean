/- What is asked of a value apart from the values in it: soundKeys, soundItself. -/
import Derived.Test.YtoinlehkmgmlbaaDoorRows2
import Derived.Test.YtoinlehkmgmlbaaDoorLays
import Derived.WalkKit
import Derived.WalkSpells
import Derived.WalkLawsBesides
import Derived.Deep.QuietTactic
import Derived.BigQuiet
import Derived.Lib.Hide
import Derived.IntWalk
namespace Go.Proofs.YtoinlehkmgmlbaaDoor
open Go Go.RowKit Go.Shelf

def less' (a b : ByteArray) : Bool := Op.bytesLess a.toList b.toList
def valid (s : ByteArray) : Bool := Lib.validD s.data.toList
/-- The tables that the library's check of UTF-8 reads. -/
def Tabs (w : World) : Prop := Lib.Utf8Tabs (Tryd.laysValid_ren.g 3) (Tryd.laysValid_ren.g 4) w
theorem Tabs.below {w w' : World} {B : Nat} (h : Tabs w) (hb : Below B w w') (hB : w.heap.size ≤ B) : Tabs w' := by
  have hc : ∀ (a : Addr) (v : Value), w.cell? a = some v → w'.cell? a = some v := fun a v hv => (hb.cell (by have := World.block_lt_of_cell? w a hv; omega)).trans hv
  exact ⟨fun c hcc => hc _ _ (h.1 c hcc), fun i hi => ⟨hc _ _ (h.2 i hi).1, hc _ _ (h.2 i hi).2⟩⟩
theorem call_valid (s : ByteArray) (w : World) (hs : s.size ≤ 9223372036854775807) (hT : Tabs w) :
    Calls Tryd.prog 35 #[.string s] w fun e w' => e = .returned (.bool (valid s)) ∧ Below w.heap.size w w' :=
  Any.utf8_ValidString Tryd.laysValid s w hs hT

/-- The keys up to the n-th are UTF-8 and rise. -/
def KeysTo (ks : List ByteArray) (n : Nat) : Prop := ∀ (i : Nat) (k : ByteArray), i < n → ks[i]? = some k → valid k = true ∧ (∀ (j : Nat) (p : ByteArray), i = j + 1 → ks[j]? = some p → less' p k = true)
def KeysOk (ks : List ByteArray) : Prop := KeysTo ks ks.length
theorem KeysTo.succ {ks : List ByteArray} {n : Nat} (h : KeysTo ks n) {k : ByteArray} (hk : ks[n]? = some k) (hv : valid k = true) (hl : ∀ (j : Nat) (p : ByteArray), n = j + 1 → ks[j]? = some p → less' p k = true) : KeysTo ks (n + 1) := by
  intro i k' hi hk'
  by_cases e : i = n
  · subst e; rw [hk] at hk'; cases hk'; exact ⟨hv, hl⟩
  · exact h i k' (by omega) hk'

def BoolPost (P : Prop) (w : World) (e : Ending) (w' : World) : Prop := ∃ b : Bool, e = .returned (.bool b) ∧ (b = true ↔ P) ∧ Below w.heap.size w w'
def KeysRel (w : World) (ks : List ByteArray) (i : Value) (wr : World) : Prop := ∃ k : Nat, i = .int .i64 k ∧ k ≤ ks.length ∧ KeysTo ks k ∧ Below w.heap.size w wr

end Go.Proofs.YtoinlehkmgmlbaaDoor
