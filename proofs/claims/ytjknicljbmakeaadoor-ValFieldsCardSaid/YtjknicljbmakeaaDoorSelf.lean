/- What is asked of a value apart from the values in it: soundKeys, soundItself. -/
import Derived.Test.YtjknicljbmakeaaDoorRows2
import Derived.Test.YtjknicljbmakeaaDoorLays
import Derived.WalkKit
import Derived.WalkSpells
import Derived.WalkLawsBesides
import Derived.Deep.QuietTactic
import Derived.BigQuiet
import Derived.Lib.Hide
import Derived.IntWalk
namespace Go.Proofs.YtjknicljbmakeaaDoor
open Go Go.RowKit Go.Shelf

def less' (a b : ByteArray) : Bool := Op.bytesLess a.toList b.toList
def valid (s : ByteArray) : Bool := Lib.validD s.data.toList
/-- The tables that the library's check of UTF-8 reads. -/
def Tabs (w : World) : Prop := Lib.Utf8Tabs (Tryd.laysValid_ren.g 3) (Tryd.laysValid_ren.g 4) w
theorem Tabs.below {w w' : World} {B : Nat} (h : Tabs w) (hb : Below B w w') (hB : w.heap.size ≤ B) : Tabs w' := by
  have hc : ∀ (a : Addr) (v : Value), w.cell? a = some v → w'.cell? a = some v := fun a v hv => (hb.cell (by have := World.block_lt_of_cell? w a hv; omega)).trans hv
  exact ⟨fun c hcc => hc _ _ (h.1 c hcc), fun i hi => ⟨hc _ _ (h.2 i hi).1, hc _ _ (h.2 i hi).2⟩⟩
theorem call_valid (s : ByteArray) (w : World) (hs : s.size ≤ 9223372036854775807) (hT : Tabs w) :
    Calls Tryd.prog 42 #[.string s] w fun e w' => e = .returned (.bool (valid s)) ∧ Below w.heap.size w w' :=
  Any.utf8_ValidString Tryd.laysValid s w hs hT

/-- The keys up to the n-th are UTF-8 and rise. -/
def KeysTo (ks : List ByteArray) (n : Nat) : Prop := ∀ (i : Nat) (k : ByteArray), i < n → ks[i]? = some k → valid k = true ∧ (∀ (j : Nat) (p : ByteArray), i = j + 1 → ks[j]? = some p → less' p k = true)
def KeysOk (ks : List ByteArray) : Prop := KeysTo ks ks.length
theorem KeysTo.succ {ks : List ByteArray} {n : Nat} (h : KeysTo ks n) {k : ByteArray} (hk : ks[n]? = some k) (hv : valid k = true) (hl : ∀ (j : Nat) (p : ByteArray), n = j + 1 → ks[j]? = some p → less' p k = true) : KeysTo ks (n + 1) := by
  intro i k' hi hk'
  by_cases e : i = n
  · subst e; rw [hk] at hk'; cases hk'; exact ⟨hv, hl⟩
  · exact h i k' (by omega) hk'

def BoolPost (P : Prop) (w : World) (e : Ending) (w' : World) : Prop := ∃ b : Bool, e = .returned (.bool b) ∧ (b = true ↔ P) ∧ Below w.heap.size w w'
def KeysRel (w : World) (ks : List ByteArray) (i : Value) (wr : World) : Prop := ∃ k : Nat, i = .int .i64 k ∧ k ≤ ks.length ∧ KeysTo ks k ∧ Below w.heap.size w wr

set_option maxHeartbeats 2000000 in
theorem sound_keys (ok : Nat → Prop) (O : Value) (ks : List ByteArray) (ov : List GV) (w : World) (hO : ObjV ok w O ks ov) (hT : Tabs w) (hs : ∀ k ∈ ks, k.size ≤ 9223372036854775807) :
    Calls Tryd.prog 57 #[O] w (BoolPost (KeysOk ks) w) := by
  have hkl := hO.1
  obtain ⟨A, c, rfl, hc1, hc2, hf⟩ := hO.form
  clear hO
  unfold maxLen at hc2
  have HL := Lib.hid hkl
  have HF := Lib.hid hf
  have HS := Lib.hid hs
  have HT := Lib.hid hT
  clear hkl hf hs hT
  go_enter Tryd.func57, Tryd.ntmps57
  go_wp2
  go_loopw [6] (KeysRel w ks) (fun i _ => ov.length - (intOf i).toNat)
  case atStart => exact ⟨0, rfl, Nat.zero_le _, fun _ _ h => absurd h (by omega), Below.refl _ _⟩
  case round =>
    obtain ⟨k, rfl, hk, hok, hB⟩ := hrel
    have HOK := Lib.hid hok
    clear hok
    by_cases hlt : k < ks.length
    · have hlt' : k < ov.length := by have := HL.out; omega
      obtain ⟨b, o, rfl, hK, hks, _⟩ := HF.out (by intro e; rw [e] at hlt'; simp at hlt')
      have hc := (hB.cell (p := ⟨b, o + k * 6, none⟩) hK.lt).trans (hks.get (List.getElem?_eq_getElem hlt))
      have HG := Lib.hid (List.getElem?_eq_getElem hlt)
      have hcall := call_valid ks[k] wr (HS.out _ (List.getElem_mem hlt)) (HT.out.below hB (Nat.le_refl _))
      -- the key ahead
      have hprev : ∀ j, k = j + 1 → ∃ p, ks[j]? = some p := fun j e => ⟨ks[j]'(by omega), List.getElem?_eq_getElem (by omega)⟩
      have hkl1 : b < wr.heap.size := by have := hK.lt; have := hB.size; omega
      have hprevc : ∀ j p, ks[j]? = some p → wr.cell? ⟨b, o + j * 6, none⟩ = some (.string p) := fun j p hp => (hB.cell (p := ⟨b, o + j * 6, none⟩) hK.lt).trans (hks.get hp)
      have HPC := Lib.hid hprevc
      clear hprevc hks
      by_cases hv : valid ks[k] = true
      · rw [hv] at hcall
        have HV := Lib.hid hv
        clear hv
        by_cases hk0 : k = 0
        · have hkz : ¬ (0 : Int) < (k : Int) := by omega
          have hkd : decide ((0 : Int) < (k : Int)) = false := by simp; omega
          have hkd2 : decide (0 < k) = false := by simp; omega
          have hkn : ¬ 0 < k := by omega
          have HK0 := Lib.hid hk0
          clear hprev hk0
          generalize ks[k] = kk at *
          go_wp2_with (go_at_call 42; refine hcall.mono ?_; rintro e W1 ⟨rfl, hB1⟩)
          go_quiet (fail)
          go_wp2
          go_roundw
          case rel => exact ⟨k + 1, by go_num, by omega, HOK.out.succ HG.out HV.out (fun j p e _ => by have := HK0.out; omega), hB.trans ((below_drewNv hB1 _).mono hB.size)⟩
          case measure => simp [intOf]; omega
        · have hkz : (0 : Int) < (k : Int) := by omega
          have hkn : 0 < k := by omega
          have hkd2 : decide (0 < k) = true := by simp; omega
          obtain ⟨p, hp⟩ := hprev (k - 1) (by omega)
          have hcp := HPC.out (k - 1) p hp
          have HPp := Lib.hid hp
          have ew : IntKind.i64.wrap ((k : Int) - 1) = (k : Int) - 1 := IntWalk.i64_in _ (by omega)
          have ew2 : (0 : Int) ≤ (k : Int) - 1 := by omega
          have ew3 : (k : Int) - 1 < (ov.length : Int) := by omega
          have ew4 : ((k : Int) - 1).toNat = k - 1 := by omega
          clear hprev hp
          generalize ks[k] = kk at *
          by_cases hl : less' p kk = true
          · have hl' : Op.bytesLess p.toList kk.toList = true := hl
            have HLs := Lib.hid hl
            clear hl
            go_wp2_with (go_at_call 42; refine hcall.mono ?_; rintro e W1 ⟨rfl, hB1⟩; have hc1 := (hB1.cell (p := ⟨b, o + k * 6, none⟩) hkl1).trans hc; have hc2 := (hB1.cell (p := ⟨b, o + (k - 1) * 6, none⟩) hkl1).trans hcp)
            go_quiet (fail)
            go_wp2
            go_roundw
            case rel => exact ⟨k + 1, by go_num, by omega, HOK.out.succ HG.out HV.out (fun j p' e hp' => by
              obtain rfl : j = k - 1 := by omega
              rw [HPp.out] at hp'; cases hp'; exact HLs.out), hB.trans ((below_drewNv hB1 _).mono hB.size)⟩
            case measure => simp [intOf]; omega
          · have hl' : Op.bytesLess p.toList kk.toList = false := by simpa [less'] using hl
            have HLs := Lib.hid hl
            clear hl
            go_wp2_with (go_at_call 42; refine hcall.mono ?_; rintro e W1 ⟨rfl, hB1⟩; have hc1 := (hB1.cell (p := ⟨b, o + k * 6, none⟩) hkl1).trans hc; have hc2 := (hB1.cell (p := ⟨b, o + (k - 1) * 6, none⟩) hkl1).trans hcp)
            go_quiet (fail)
            go_wp2
            go_ret
            exact ⟨false, rfl, by
              constructor
              · intro h; cases h
              · intro h
                have := (h k kk hlt HG.out).2 (k - 1) p (by omega) HPp.out
                exact absurd this HLs.out, hB.trans ((below_drewNv hB1 _).mono hB.size)⟩
      · have hv' : valid ks[k] = false := by simpa using hv
        rw [hv'] at hcall
        have HV := Lib.hid hv
        clear hv hv' hprev
        generalize ks[k] = kk at *
        go_wp2_with (go_at_call 42; refine hcall.mono ?_; rintro e W1 ⟨rfl, hB1⟩)
        go_ret
        exact ⟨false, rfl, by
          constructor
          · intro h; cases h
          · intro h; exact absurd (h k kk hlt HG.out).1 HV.out, hB.trans (hB1.mono hB.size)⟩
    · have hnl : ¬ k < ov.length := by have := HL.out; omega
      have hke : k = ks.length := by omega
      have HKE := Lib.hid hke
      clear hke
      go_wp2
      go_ret
      exact ⟨true, rfl, by
        refine ⟨fun _ => ?_, fun _ => rfl⟩
        have := HOK.out
        rw [HKE.out] at this
        exact this, hB⟩
end Go.Proofs.YtjknicljbmakeaaDoor
