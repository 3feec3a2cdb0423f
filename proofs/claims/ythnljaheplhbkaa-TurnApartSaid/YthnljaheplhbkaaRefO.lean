/- The document's own Sound: what it comes to for a value, whatever it is. -/
import Derived.Test.YthnljaheplhbkaaBaseB
import Derived.Test.YthnljaheplhbkaaBaseA
import Derived.BigQuiet
import Derived.Lib.QuietBelow
import Derived.Deep.CutRange
import Derived.Deep.DeepCutAuto
namespace Go.Proofs.Ythnljaheplhbkaa
open Go Go.RowKit Go.Shelf Go.Sort

theorem sounds_iff : ∀ (l : List GV), GV.Sounds l ↔ ∀ x ∈ l, x.Sound
  | [] => by simp [GV.Sounds]
  | x :: r => by simp [GV.Sounds, sounds_iff r]

def SoundTo (l : List GV) (k : Nat) : Prop := ∀ (i : Nat) (x : GV), i < k → l[i]? = some x → x.Sound
theorem SoundTo.succ {l : List GV} {k : Nat} (h0 : SoundTo l k) {x : GV} (hx : l[k]? = some x) (hs : x.Sound) : SoundTo l (k + 1) := fun i a hi ha => by
  by_cases e : i = k
  · subst e; rw [hx] at ha; cases ha; exact hs
  · exact h0 i a (by omega) ha
theorem soundTo_iff {l : List GV} : GV.Sounds l ↔ SoundTo l l.length := by
  rw [sounds_iff]
  constructor
  · intro h i x _ hx; exact h x (List.mem_of_getElem? hx)
  · intro h x hx
    obtain ⟨i, hi, rfl⟩ := List.mem_iff_getElem.1 hx
    exact h i _ hi (List.getElem?_eq_getElem hi)

/-- What the first question asks: no field that says nothing is set, but N. -/
def HeadA (gk : Int) (gs : ByteArray) (nl no : Nat) : Prop := gk ≤ 5 ∧ (gk = 3 ∨ gs.toList = []) ∧ (gk = 4 ∨ nl = 0) ∧ (gk = 5 ∨ no = 0)
/-- What the second one asks: N, and that S is UTF-8. -/
def HeadB (gk gn : Int) (gs : ByteArray) : Prop := (gk = 2 ∨ gn = 0 ∨ gk = 1 ∧ gn = 1) ∧ valid gs = true

theorem toList_data (s : ByteArray) : s.toList = s.data.toList := ByteArray.toList_eq s
theorem len_cases (n : Nat) : (Hid (n = 0) ∧ decide ((0 : Int) < (n : Int)) = false ∧ decide (0 < n) = false) ∨ 0 < n := by
  rcases Nat.eq_zero_or_pos n with h | h
  · subst h; exact .inl ⟨Lib.hid rfl, by simp, by simp⟩
  · exact .inr h
theorem str_cases (s : ByteArray) : s.toList = [] ∨ (s.toList ≠ [] ∧ s.toList.isEmpty = false) := by
  by_cases h : s.toList = []
  · exact .inl h
  · exact .inr ⟨h, by simpa using h⟩
theorem num_cases (n : Int) : n = 0 ∨ n = 1 ∨ ((n == 0) = false ∧ (n != 0) = true ∧ (n == 1) = false ∧ (n != 1) = true ∧ Hid (n ≠ 0 ∧ n ≠ 1)) := by
  by_cases h : n = 0
  · exact .inl h
  by_cases h1 : n = 1
  · exact .inr (.inl h1)
  exact .inr (.inr ⟨by simpa using h, by simpa using h, by simpa using h1, by simpa using h1, Lib.hid ⟨h, h1⟩⟩)
theorem leq_less : ∀ (x y : List UInt8), (Op.bytesLess x y || x == y) = !Op.bytesLess y x
  | [], [] => by simp [Op.bytesLess]
  | [], _ :: _ => by simp [Op.bytesLess]
  | _ :: _, [] => by simp [Op.bytesLess]
  | a :: x, b :: y => by
    have ih := leq_less x y
    by_cases h : a = b
    · subst h
      simpa [Op.bytesLess, UInt8.lt_irrefl] using ih
    · have h' : ¬ b = a := fun e => h e.symm
      by_cases hl : a < b
      · have : ¬ b < a := by rw [UInt8.lt_iff_toNat_lt] at *; omega
        simp [Op.bytesLess, h', hl, this]
      · have : b < a := by
          rw [UInt8.lt_iff_toNat_lt] at *
          have : a.toNat ≠ b.toNat := fun e => h (UInt8.toNat_inj.1 e)
          omega
        simp [Op.bytesLess, h, hl, this]
theorem less_cases (p k : ByteArray) : (less' p k = true ∧ Op.bytesLess k.toList p.toList = false ∧ (k.toList == p.toList) = false) ∨
    (less' p k = false ∧ Op.bytesLess k.toList p.toList = true) ∨ (less' p k = false ∧ Op.bytesLess k.toList p.toList = false ∧ (k.toList == p.toList) = true) := by
  have h := leq_less k.toList p.toList
  unfold less'
  cases h1 : Op.bytesLess k.toList p.toList <;> cases h2 : (k.toList == p.toList) <;> cases h3 : Op.bytesLess p.toList k.toList <;> simp_all
theorem kind_a (k : Int) : k = 3 ∨ k = 4 ∨ k = 5 ∨ ((k == 3) = false ∧ (k != 3) = true ∧ (k == 4) = false ∧ (k != 4) = true ∧ (k == 5) = false ∧ (k != 5) = true ∧ Hid (k ≠ 3 ∧ k ≠ 4 ∧ k ≠ 5)) := by
  by_cases h3 : k = 3
  · exact .inl h3
  by_cases h4 : k = 4
  · exact .inr (.inl h4)
  by_cases h5 : k = 5
  · exact .inr (.inr (.inl h5))
  exact .inr (.inr (.inr ⟨by simpa using h3, by simpa using h3, by simpa using h4, by simpa using h4, by simpa using h5, by simpa using h5, Lib.hid ⟨h3, h4, h5⟩⟩))
theorem kind_b (k : Int) : k = 1 ∨ k = 2 ∨ ((k == 1) = false ∧ (k != 1) = true ∧ (k == 2) = false ∧ (k != 2) = true ∧ Hid (k ≠ 1 ∧ k ≠ 2)) := by
  by_cases h1 : k = 1
  · exact .inl h1
  by_cases h2 : k = 2
  · exact .inr (.inl h2)
  exact .inr (.inr ⟨by simpa using h1, by simpa using h1, by simpa using h2, by simpa using h2, Lib.hid ⟨h1, h2⟩⟩)
theorem zero_cases (n : Int) : n = 0 ∨ ((n == 0) = false ∧ (n != 0) = true ∧ Hid (n ≠ 0)) := by
  by_cases h : n = 0
  · exact .inl h
  exact .inr ⟨by simpa using h, by simpa using h, Lib.hid h⟩
theorem valid_empty {s : ByteArray} (h : s.toList = []) : valid s = true := by
  have e : s.data.toList = [] := by rw [← toList_data]; exact h
  unfold valid; rw [e]; rfl
theorem self_iff {gk gn : Int} {gs : ByteArray} {gl : List GV} {gy : List ByteArray} {go : List GV} (hk : 0 ≤ gk) (hl : gy.length = go.length) :
    SelfP gk gn gs gl gy go ↔ HeadA gk gs gl.length go.length ∧ HeadB gk gn gs ∧ KeysOk gy := by
  constructor
  · rintro ⟨h1, h2, h3, h4, h5⟩
    refine ⟨⟨by omega, ?_, ?_, ?_⟩, ⟨h2, ?_⟩, ?_⟩
    · rcases h3 with h3 | h3
      · exact .inl h3.1
      · exact .inr h3.2
    · rcases h4 with h4 | h4
      · exact .inl h4
      · exact .inr (by simp [h4])
    · rcases h5 with h5 | h5
      · exact .inl h5.1
      · exact .inr (by simp [h5.2])
    · rcases h3 with h3 | h3
      · exact h3.2
      · exact valid_empty h3.2
    · rcases h5 with h5 | h5
      · exact h5.2
      · have e : gy = [] := List.eq_nil_of_length_eq_zero (by rw [hl, h5.2]; rfl)
        subst e
        intro i k hi
        simp at hi
  · rintro ⟨⟨h1, h2, h3, h4⟩, ⟨h5, h6⟩, h7⟩
    refine ⟨by omega, h5, ?_, h3.imp id List.eq_nil_of_length_eq_zero, ?_⟩
    · by_cases e : gk = 3
      · exact .inl ⟨e, h6⟩
      · exact .inr ⟨e, h2.resolve_left e⟩
    · by_cases e : gk = 5
      · exact .inl ⟨e, h7⟩
      · exact .inr ⟨e, List.eq_nil_of_length_eq_zero (h4.resolve_left e)⟩

theorem vb_iff {gk gn : Int} {gs : ByteArray} (h : gk = 2 ∨ gn = 0 ∨ gk = 1 ∧ gn = 1) : (!valid gs) = true ↔ ¬ HeadB gk gn gs := by
  unfold HeadB
  cases hv : valid gs <;> simp [h]

def SoundRel1 (W0 : World) (l : List GV) (i : Value) (wr : World) : Prop := ∃ k : Nat, i = .int .i64 k ∧ k ≤ l.length ∧ SoundTo l k ∧ Below W0.heap.size W0 wr
def SoundRel2 (W0 : World) (ks : List ByteArray) (ov : List GV) (i : Value) (wr : World) : Prop := ∃ k : Nat, i = .int .i64 k ∧ k ≤ ov.length ∧ SoundTo ov k ∧ KeysTo ks k ∧ Below W0.heap.size W0 wr
def HeadRel (P : Prop) (W0 : World) (v : Value) (wr : World) : Prop := ∃ b : Bool, v = .bool b ∧ (b = true ↔ ¬ P) ∧ Below W0.heap.size W0 wr

end Go.Proofs.Ythnljaheplhbkaa
