/- Field, the program's and the document's: where a key stands. -/
import Derived.Test.YtmmjkhkcffgeiaaDoorBaseA
import Derived.WalkKit
import Derived.WalkSpells
import Derived.WalkLawsBesides
import Derived.Deep.QuietTactic
import Derived.BigQuiet
import Derived.Lib.Hide
namespace Go.Proofs.YtmmjkhkcffgeiaaDoor
open Go Go.RowKit

def less (a b : ByteArray) : Bool := Op.bytesLess a.toList b.toList
/-- Where a key stands, or would stand. -/
def place (key : ByteArray) : List ByteArray → Nat
  | [] => 0
  | k :: r => if less k key then 1 + place key r else 0
theorem place_le (key : ByteArray) : ∀ ks, place key ks ≤ ks.length
  | [] => Nat.le_refl _
  | k :: r => by unfold place; have := place_le key r; split <;> simp <;> omega
theorem place_lt (key : ByteArray) : ∀ (ks : List ByteArray) (i : Nat) (k : ByteArray), ks[i]? = some k → i < place key ks → less k key = true
  | [], _, _, h, _ => by simp at h
  | x :: r, 0, k, h, hi => by
    simp at h; subst h
    unfold place at hi
    by_cases hx : less x key = true
    · exact hx
    · rw [if_neg hx] at hi; omega
  | x :: r, i + 1, k, h, hi => by
    unfold place at hi
    by_cases hx : less x key = true
    · rw [if_pos hx] at hi
      exact place_lt key r i k (by simpa using h) (by omega)
    · rw [if_neg hx] at hi; omega
theorem place_eq (key : ByteArray) : ∀ (ks : List ByteArray) (n : Nat), n ≤ ks.length → (∀ i k, ks[i]? = some k → i < n → less k key = true) → (∀ k, ks[n]? = some k → less k key = false) → place key ks = n
  | [], n, h, _, _ => by simp at h; subst h; rfl
  | x :: r, 0, _, _, h2 => by
    have := h2 x rfl
    unfold place
    rw [if_neg (by simp [this])]
  | x :: r, n + 1, h, h1, h2 => by
    have hx := h1 0 x rfl (by omega)
    unfold place
    rw [if_pos hx, place_eq key r n (by simpa using h) (fun i k hi hlt => h1 (i + 1) k (by simpa using hi) (by omega)) (fun k hk => h2 k (by simpa using hk))]
    omega
/-- Is it there? -/
def there (key : ByteArray) (ks : List ByteArray) : Bool := match ks[place key ks]? with | some k => k.toList == key.toList | none => false

def FieldPost (ks : List ByteArray) (key : ByteArray) (w : World) (e : Ending) (w' : World) : Prop :=
  e = .returned (.tuple #[.int .i64 (place key ks), .bool (there key ks)]) ∧ Below w.heap.size w w'

def FieldRel (key : ByteArray) (ks : List ByteArray) (i : Value) : Prop :=
  ∃ k : Nat, k ≤ ks.length ∧ i = .int .i64 k ∧ (∀ i x, ks[i]? = some x → i < k → less x key = true)

set_option maxHeartbeats 1000000 in
theorem ref_Field (ok : Nat → Prop) (v : Value) (g : GV) (key : ByteArray) (w : World) (hv : g.val ok w v) :
    Calls Tryd.prog 58 #[v, .string key] w (FieldPost g.keys key w) := by
  obtain ⟨L, O, rfl, _, hO⟩ := hv
  have hkl := hO.1
  obtain ⟨A, c, rfl, hc1, hc2, hf⟩ := hO.form
  clear hO
  unfold maxLen at hc2
  generalize g.keys = ks at *
  generalize g.vals = ov at *
  generalize g.kind = gk
  generalize g.num = gn
  generalize g.str = gs
  have HL := Lib.hid hkl
  clear hkl
  go_enter Tryd.func58, Tryd.ntmps58
  go_wp2
  have hB : Below w.heap.size w (w.alloc (.cells #[Value.int IntKind.u8 gk, Value.int IntKind.i64 gn, Value.string gs, L, Value.slice A ov.length c] 31)) := (Below.refl _ _).alloc (Nat.le_refl _) _
  have h4 : (w.alloc (.cells #[Value.int IntKind.u8 gk, Value.int IntKind.i64 gn, Value.string gs, L, Value.slice A ov.length c] 31)).cell? ⟨w.heap.size, 4, none⟩ = some (Value.slice A ov.length c) := by simp
  generalize (w.alloc (.cells #[Value.int IntKind.u8 gk, Value.int IntKind.i64 gn, Value.string gs, L, Value.slice A ov.length c] 31)) = W at hB h4 ⊢
  go_loop [6] (FieldRel key ks) (fun i => ov.length - (intOf i).toNat)
  case atStart => exact ⟨0, Nat.zero_le _, rfl, fun _ _ _ h => absurd h (by omega)⟩
  case round =>
    obtain ⟨k, hk, rfl, hless⟩ := hrel
    have HS := Lib.hid hless
    clear hless
    have HL' := HL.out
    by_cases hlt : k < ks.length
    · have hlt' : k < ov.length := by omega
      have hltz : (k : Int) < (ov.length : Int) := by omega
      obtain ⟨b, o, rfl, hK, hks, _⟩ := hf (by intro e; rw [e] at hlt'; simp at hlt')
      have hc0 := hks.get (List.getElem?_eq_getElem hlt)
      have hc1 := (hB.cell (p := ⟨b, o + k * 6, none⟩) hK.lt).trans hc0
      have HG := Lib.hid (List.getElem?_eq_getElem hlt)
      clear hc0 hks hK hf HL'
      generalize ks[k] = kk at *
      by_cases hl : less kk key = true
      · have hl' : Op.bytesLess kk.toList key.toList = true := hl
        go_wp2
        go_round
        case rel => exact ⟨k + 1, by omega, by go_num, fun i x hx hi => by
          by_cases e : i = k
          · subst e; rw [HG.out] at hx; cases hx; exact hl
          · exact HS.out i x hx (by omega)⟩
        case measure => simp [intOf]; omega
      · have hl' : Op.bytesLess kk.toList key.toList = false := by simpa [less] using hl
        have HP := Lib.hid (place_eq key ks k hk HS.out (fun x hx => by rw [HG.out] at hx; cases hx; exact hl'))
        have HT := Lib.hid (show there key ks = (kk.toList == key.toList) by unfold there; rw [HP.out, HG.out])
        clear hl
        go_wp2
        go_quiet (fail)
        go_wp2
        go_ret2
        refine ⟨?_, ?_⟩
        · show Ending.returned (.tuple #[.int .i64 k, .bool (kk.toList == key.toList)]) = _
          rw [HP.out, HT.out]
        · first | exact hB.drew | exact below_drewNv hB _ | exact ⟨hB.os, hB.tape, hB.output, hB.size, hB.block⟩
    · have hk' : ¬ k < ov.length := by omega
      have hkz : ¬ (k : Int) < (ov.length : Int) := by omega
      have hd : decide ((k : Int) < (ov.length : Int)) = false := by simpa using hk'
      clear HL'
      go_wp2
      go_quiet (fail)
      go_wp2
      go_ret2
      refine ⟨?_, by first | exact hB.drew | exact below_drewNv hB _ | exact ⟨hB.os, hB.tape, hB.output, hB.size, hB.block⟩⟩
      have HL' := HL.out
      have hk2 : k = ks.length := by omega
      subst hk2
      have HP := place_eq key ks ks.length (Nat.le_refl _) HS.out (fun x hx => by simp at hx)
      show Ending.returned (.tuple #[.int .i64 ks.length, .bool false]) = _
      rw [HP, show there key ks = false by unfold there; rw [HP]; simp]
end Go.Proofs.YtmmjkhkcffgeiaaDoor
