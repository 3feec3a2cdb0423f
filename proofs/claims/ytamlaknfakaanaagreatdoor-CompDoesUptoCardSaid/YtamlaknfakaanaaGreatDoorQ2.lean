/- Texts in one: Open, Field. -/
import Derived.Test.YtamlaknfakaanaaGreatDoorQ1
import Derived.Test.YtamlaknfakaanaaGreatDoorRows
import Derived.ProofKit
import Derived.Deep.Slices
import Derived.SizedLaws
import Derived.Lib.LaidU8T
import Derived.OpenShut
import Derived.Lay
import Derived.WalkKit
import Derived.WalkSpells
import Derived.WalkLawsBesides
import Derived.Deep.QuietTactic
import Derived.BigQuiet
import Derived.Lib.Hide
namespace Go.Proofs.YtamlaknfakaanaaGreatDoor
open Go Go.ChangeShapes Go.WideShapes Go.ChangeAt Go.RowKit Go.Lib Go.Shelf
theorem list_of {α : Type} {Q : Nat → α → Prop} : ∀ n, (∀ i, i < n → ∃ x, Q i x) → ∃ l : List α, l.length = n ∧ ∀ i x, l[i]? = some x → Q i x
  | 0, _ => ⟨[], rfl, fun i x h => by simp at h⟩
  | n + 1, h => by
    obtain ⟨l, hl, hq⟩ := list_of n (fun i hi => h i (by omega))
    obtain ⟨x, hx⟩ := h n (by omega)
    refine ⟨l ++ [x], by simp [hl], fun i y hy => ?_⟩
    by_cases e : i < l.length
    · rw [List.getElem?_append_left e] at hy; exact hq i y hy
    · rw [List.getElem?_append_right (by omega)] at hy
      have : i = n := by
        have := (List.getElem?_eq_some_iff.1 hy).1
        simp at this; omega
      subst this
      rw [hl] at hy
      simp at hy
      subst hy
      exact hx
theorem weightsAll_mem {H : Type} {P : Program} {e : TypeId} : ∀ {l : List (DataW H)} {d : DataW H}, d ∈ l → ∀ n ∈ d.weights P e, n ∈ DataW.weightsAll P e l
  | [], d, h, _, _ => by simp at h
  | x :: r, d, h, n, hn => by
    simp only [DataW.weightsAll, List.mem_append]
    rcases List.mem_cons.1 h with rfl | h
    · exact .inl hn
    · exact .inr (weightsAll_mem h n hn)
theorem spot_none {W : World} {a : Addr} {v : Value} (h : W.cell? a = some v) : a.spot = none := by
  cases hs : a.spot with
  | none => rfl
  | some z =>
    unfold World.cell? at h
    cases ho : W.heap[a.block]? with
    | none => simp [ho] at h
    | some o => cases o <;> simp [ho, hs] at h
theorem add_block (a : Addr) (k : Nat) : (a.add k).block = a.block := by unfold Addr.add; split <;> rfl
theorem add_add (a : Addr) (i j : Nat) (h : i = 0 → a.spot = none) : (a.add (i * 4)).add j = ⟨a.block, a.off + i * 4 + j, none⟩ := by
  obtain ⟨b, o, sp⟩ := a
  by_cases e : i = 0
  · have := h e
    simp only at this
    subst e this
    by_cases e' : j = 0 <;> simp [Addr.add, e']
  · have e4 : ¬ i * 4 = 0 := by omega
    by_cases e' : j = 0
    · subst e'; simp only [Addr.add, if_neg e4, if_true, Nat.add_zero]
    · simp only [Addr.add, if_neg e4, if_neg e']
theorem cells_tok : Tryz.prog.cellsOf 57 = 4 := by kernel_rfl
theorem cells_byte : Tryz.prog.cellsOf 5 = 1 := by kernel_rfl
theorem cells_int64 : Tryz.prog.cellsOf 2 = 1 := by kernel_rfl
theorem cells_string : Tryz.prog.cellsOf 9 = 1 := by kernel_rfl
end Go.Proofs.YtamlaknfakaanaaGreatDoor

namespace Go.Proofs.YtamlaknfakaanaaGreatDoor
open Go Go.RowKit
def less (a b : ByteArray) : Bool := Op.bytesLess a.toList b.toList
def place (key : ByteArray) : List ByteArray → Nat
  | [] => 0
  | k :: r => if less k key then 1 + place key r else 0
theorem place_le (key : ByteArray) : ∀ ks, place key ks ≤ ks.length
  | [] => Nat.le_refl _
  | k :: r => by unfold place; have := place_le key r; split <;> simp <;> omega
theorem place_lt (key : ByteArray) : ∀ (ks : List ByteArray) (i : Nat) (k : ByteArray), ks[i]? = some k → i < place key ks → less k key = true
  | [], _, _, h, _ => by simp at h
  | x :: r, 0, k, h, hi => by
    simp at h; subst h
    unfold place at hi
    by_cases hx : less x key = true
    · exact hx
    · rw [if_neg hx] at hi; omega
  | x :: r, i + 1, k, h, hi => by
    unfold place at hi
    by_cases hx : less x key = true
    · rw [if_pos hx] at hi
      exact place_lt key r i k (by simpa using h) (by omega)
    · rw [if_neg hx] at hi; omega
theorem place_eq (key : ByteArray) : ∀ (ks : List ByteArray) (n : Nat), n ≤ ks.length → (∀ i k, ks[i]? = some k → i < n → less k key = true) → (∀ k, ks[n]? = some k → less k key = false) → place key ks = n
  | [], n, h, _, _ => by simp at h; subst h; rfl
  | x :: r, 0, _, _, h2 => by
    have := h2 x rfl
    unfold place
    rw [if_neg (by simp [this])]
  | x :: r, n + 1, h, h1, h2 => by
    have hx := h1 0 x rfl (by omega)
    unfold place
    rw [if_pos hx, place_eq key r n (by simpa using h) (fun i k hi hlt => h1 (i + 1) k (by simpa using hi) (by omega)) (fun k hk => h2 k (by simpa using hk))]
    omega
def there (key : ByteArray) (ks : List ByteArray) : Bool := match ks[place key ks]? with | some k => k.toList == key.toList | none => false
def FieldPost (ks : List ByteArray) (key : ByteArray) (w : World) (e : Ending) (w' : World) : Prop :=
  e = .returned (.tuple #[.int .i64 (place key ks), .bool (there key ks)]) ∧ Below w.heap.size w w'
def FieldRel (key : ByteArray) (ks : List ByteArray) (i : Value) : Prop :=
  ∃ k : Nat, k ≤ ks.length ∧ i = .int .i64 k ∧ (∀ i x, ks[i]? = some x → i < k → less x key = true)
set_option maxHeartbeats 1000000 in
theorem val_Field (ok : Nat → Prop) (v : Value) (g : GV) (key : ByteArray) (w : World) (hv : g.val ok w v) :
    Calls Tryz.prog 78 #[v, .string key] w (FieldPost g.keys key w) := by
  obtain ⟨L, O, rfl, _, hO⟩ := hv
  have hkl := hO.1
  obtain ⟨A, c, rfl, hc1, hc2, hf⟩ := hO.form
  clear hO
  unfold maxLen at hc2
  generalize g.keys = ks at *
  generalize g.vals = ov at *
  generalize g.kind = gk
  generalize g.num = gn
  generalize g.str = gs
  have HL := Lib.hid hkl
  clear hkl
  go_enter Tryz.func78, Tryz.ntmps78
  go_wp2
  have hB : Below w.heap.size w (w.alloc (.cells #[Value.int IntKind.u8 gk, Value.int IntKind.i64 gn, Value.string gs, L, Value.slice A ov.length c] 31)) := (Below.refl _ _).alloc (Nat.le_refl _) _
  have h4 : (w.alloc (.cells #[Value.int IntKind.u8 gk, Value.int IntKind.i64 gn, Value.string gs, L, Value.slice A ov.length c] 31)).cell? ⟨w.heap.size, 4, none⟩ = some (Value.slice A ov.length c) := by simp
  generalize (w.alloc (.cells #[Value.int IntKind.u8 gk, Value.int IntKind.i64 gn, Value.string gs, L, Value.slice A ov.length c] 31)) = W at hB h4 ⊢
  go_loop [10] (FieldRel key ks) (fun i => ov.length - (intOf i).toNat)
  case atStart => exact ⟨0, Nat.zero_le _, rfl, fun _ _ _ h => absurd h (by omega)⟩
  case round =>
    obtain ⟨k, hk, rfl, hless⟩ := hrel
    have HS := Lib.hid hless
    clear hless
    have HL' := HL.out
    by_cases hlt : k < ks.length
    · have hlt' : k < ov.length := by omega
      obtain ⟨b, o, rfl, hK, hks, _⟩ := hf (by intro e; rw [e] at hlt'; simp at hlt')
      have hc0 := hks.get (List.getElem?_eq_getElem hlt)
      have hc1 := (hB.cell (p := ⟨b, o + k * 6, none⟩) hK.lt).trans hc0
      have HG := Lib.hid (List.getElem?_eq_getElem hlt)
      clear hc0 hks hK hf HL'
      generalize ks[k] = kk at *
      by_cases hl : less kk key = true
      · have hl' : Op.bytesLess kk.toList key.toList = true := hl
        go_wp2
        go_round
        case rel => exact ⟨k + 1, by omega, by go_num, fun i x hx hi => by
          by_cases e : i = k
          · subst e; rw [HG.out] at hx; cases hx; exact hl
          · exact HS.out i x hx (by omega)⟩
        case measure => simp [intOf]; omega
      · have hl' : Op.bytesLess kk.toList key.toList = false := by simpa [less] using hl
        have HP := Lib.hid (place_eq key ks k hk HS.out (fun x hx => by rw [HG.out] at hx; cases hx; exact hl'))
        have HT := Lib.hid (show there key ks = (kk.toList == key.toList) by unfold there; rw [HP.out, HG.out])
        clear hl
        go_wp2
        go_quiet (fail)
        go_wp2
        go_ret2
        refine ⟨?_, ?_⟩
        · show Ending.returned (.tuple #[.int .i64 k, .bool (kk.toList == key.toList)]) = _
          rw [HP.out, HT.out]
        · first | exact hB.drew | exact below_drewNv hB _ | exact ⟨hB.os, hB.tape, hB.output, hB.size, hB.block⟩
    · have hk' : ¬ k < ov.length := by omega
      clear HL'
      go_wp2
      go_ret2
      refine ⟨?_, hB⟩
      have hk2 : k = ks.length := by omega
      subst hk2
      have HP := place_eq key ks ks.length (Nat.le_refl _) HS.out (fun x hx => by simp at hx)
      show Ending.returned (.tuple #[.int .i64 ov.length, .bool false]) = _
      rw [HP, show there key ks = false by unfold there; rw [HP]; simp, HL.out]
set_option maxHeartbeats 1000000 in
theorem ref_Field (ok : Nat → Prop) (v : Value) (g : GV) (key : ByteArray) (w : World) (hv : g.val ok w v) :
    Calls Tryz.prog 63 #[v, .string key] w (FieldPost g.keys key w) := by
  obtain ⟨L, O, rfl, _, hO⟩ := hv
  have hkl := hO.1
  obtain ⟨A, c, rfl, hc1, hc2, hf⟩ := hO.form
  clear hO
  unfold maxLen at hc2
  generalize g.keys = ks at *
  generalize g.vals = ov at *
  generalize g.kind = gk
  generalize g.num = gn
  generalize g.str = gs
  have HL := Lib.hid hkl
  clear hkl
  go_enter Tryz.func63, Tryz.ntmps63
  go_wp2
  have hB : Below w.heap.size w (w.alloc (.cells #[Value.int IntKind.u8 gk, Value.int IntKind.i64 gn, Value.string gs, L, Value.slice A ov.length c] 31)) := (Below.refl _ _).alloc (Nat.le_refl _) _
  have h4 : (w.alloc (.cells #[Value.int IntKind.u8 gk, Value.int IntKind.i64 gn, Value.string gs, L, Value.slice A ov.length c] 31)).cell? ⟨w.heap.size, 4, none⟩ = some (Value.slice A ov.length c) := by simp
  generalize (w.alloc (.cells #[Value.int IntKind.u8 gk, Value.int IntKind.i64 gn, Value.string gs, L, Value.slice A ov.length c] 31)) = W at hB h4 ⊢
  go_loop [6] (FieldRel key ks) (fun i => ov.length - (intOf i).toNat)
  case atStart => exact ⟨0, Nat.zero_le _, rfl, fun _ _ _ h => absurd h (by omega)⟩
  case round =>
    obtain ⟨k, hk, rfl, hless⟩ := hrel
    have HS := Lib.hid hless
    clear hless
    have HL' := HL.out
    by_cases hlt : k < ks.length
    · have hlt' : k < ov.length := by omega
      have hltz : (k : Int) < (ov.length : Int) := by omega
      obtain ⟨b, o, rfl, hK, hks, _⟩ := hf (by intro e; rw [e] at hlt'; simp at hlt')
      have hc0 := hks.get (List.getElem?_eq_getElem hlt)
      have hc1 := (hB.cell (p := ⟨b, o + k * 6, none⟩) hK.lt).trans hc0
      have HG := Lib.hid (List.getElem?_eq_getElem hlt)
      clear hc0 hks hK hf HL'
      generalize ks[k] = kk at *
      by_cases hl : less kk key = true
      · have hl' : Op.bytesLess kk.toList key.toList = true := hl
        go_wp2
        go_round
        case rel => exact ⟨k + 1, by omega, by go_num, fun i x hx hi => by
          by_cases e : i = k
          · subst e; rw [HG.out] at hx; cases hx; exact hl
          · exact HS.out i x hx (by omega)⟩
        case measure => simp [intOf]; omega
      · have hl' : Op.bytesLess kk.toList key.toList = false := by simpa [less] using hl
        have HP := Lib.hid (place_eq key ks k hk HS.out (fun x hx => by rw [HG.out] at hx; cases hx; exact hl'))
        have HT := Lib.hid (show there key ks = (kk.toList == key.toList) by unfold there; rw [HP.out, HG.out])
        clear hl
        go_wp2
        go_quiet (fail)
        go_wp2
        go_ret2
        refine ⟨?_, ?_⟩
        · show Ending.returned (.tuple #[.int .i64 k, .bool (kk.toList == key.toList)]) = _
          rw [HP.out, HT.out]
        · first | exact hB.drew | exact below_drewNv hB _ | exact ⟨hB.os, hB.tape, hB.output, hB.size, hB.block⟩
    · have hk' : ¬ k < ov.length := by omega
      have hkz : ¬ (k : Int) < (ov.length : Int) := by omega
      have hd : decide ((k : Int) < (ov.length : Int)) = false := by simpa using hk'
      clear HL'
      go_wp2
      go_quiet (fail)
      go_wp2
      go_ret2
      refine ⟨?_, by first | exact hB.drew | exact below_drewNv hB _ | exact ⟨hB.os, hB.tape, hB.output, hB.size, hB.block⟩⟩
      have HL' := HL.out
      have hk2 : k = ks.length := by omega
      subst hk2
      have HP := place_eq key ks ks.length (Nat.le_refl _) HS.out (fun x hx => by simp at hx)
      show Ending.returned (.tuple #[.int .i64 ks.length, .bool false]) = _
      rw [HP, show there key ks = false by unfold there; rw [HP]; simp]
end Go.Proofs.YtamlaknfakaanaaGreatDoor

