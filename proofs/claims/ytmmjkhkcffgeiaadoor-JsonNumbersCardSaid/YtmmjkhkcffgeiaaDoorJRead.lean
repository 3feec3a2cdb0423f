/- What json's reader reads of a text, as plain mathematics: escapes and letters. -/
import Derived.Test.YtmmjkhkcffgeiaaDoorRdD
namespace Go.Proofs.YtmmjkhkcffgeiaaDoor
open Go Go.RowKit

/-- What an escape stands for, and how many bytes it has behind the backslash. -/
def esc : List UInt8 → Option (UInt8 × Nat)
  | [] => none
  | c :: r => if c = 34 ∨ c = 92 then some (c, 1) else if c = 117 then
      (match r with
        | a :: b :: h :: l :: _ => if a = 48 ∧ b = 48 ∧ 0 ≤ hexIx 2 h ∧ 0 ≤ hexIx 16 l then some (UInt8.ofNat (16 * hexIx 2 h + hexIx 16 l).toNat, 5) else none
        | _ => none)
    else none
theorem hexIx2 (h : UInt8) : hexIx 2 h = if h = 48 then 0 else if h = 49 then 1 else -1 := by
  simp only [hexIx, hexL, List.take_succ_cons, List.take_zero, Lib.indexByte, beq_iff_eq]
  by_cases h0 : h = 48
  · subst h0; simp
  · by_cases h1 : h = 49
    · subst h1; simp
    · have e0 : ¬ (48 : UInt8) = h := fun e => h0 e.symm
      have e1 : ¬ (49 : UInt8) = h := fun e => h1 e.symm
      simp [h0, h1, e0, e1]
theorem hexIx16_hexD : ∀ k, k < 16 → hexIx 16 (hexD k) = k := by decide
set_option maxRecDepth 100000 in
theorem hexD_hexIx16 : ∀ k, k < 256 → 0 ≤ hexIx 16 (UInt8.ofNat k) → hexIx 16 (UInt8.ofNat k) ≤ 15 ∧ hexD (hexIx 16 (UInt8.ofNat k)).toNat = UInt8.ofNat k := by decide +kernel
theorem hex16_back (l : UInt8) (h : 0 ≤ hexIx 16 l) : hexIx 16 l ≤ 15 ∧ hexD (hexIx 16 l).toNat = l := by
  have := hexD_hexIx16 l.toNat l.toNat_lt
  rw [UInt8.ofNat_toNat] at this
  exact this h
theorem hex2_back (l : UInt8) (h : 0 ≤ hexIx 2 l) : hexIx 2 l ≤ 1 ∧ hexD (hexIx 2 l).toNat = l := by
  rw [hexIx2] at h ⊢
  by_cases h0 : l = 48
  · subst h0; exact ⟨by decide, by decide⟩
  · by_cases h1 : l = 49
    · subst h1; exact ⟨by decide, by decide⟩
    · rw [if_neg h0, if_neg h1] at h; omega
theorem enc_low {n : Nat} (h : n < 32) : encLetter (UInt8.ofNat n) = [92, 117, 48, 48, hexD (n / 16), hexD (n % 16)] := by
  have hn : (UInt8.ofNat n).toNat = n := by simp [UInt8.toNat_ofNat']; omega
  have n1 : ¬ (UInt8.ofNat n = 34 ∨ UInt8.ofNat n = 92) := by
    rintro (e | e)
    · have := congrArg UInt8.toNat e; rw [hn] at this; have h34 : (34 : UInt8).toNat = 34 := rfl; omega
    · have := congrArg UInt8.toNat e; rw [hn] at this; have h92 : (92 : UInt8).toNat = 92 := rfl; omega
  unfold encLetter
  rw [if_neg n1, if_pos (by rw [UInt8.lt_iff_toNat_lt, hn]; exact h), hn]
/-- An escape that is read is one that is written. -/
theorem esc_enc {r : List UInt8} {c : UInt8} {n : Nat} (h : esc r = some (c, n)) : n ≤ r.length ∧ encLetter c = 92 :: r.take n := by
  cases r with
  | nil => simp [esc] at h
  | cons x r =>
    simp only [esc] at h
    by_cases h1 : x = 34 ∨ x = 92
    · rw [if_pos h1] at h
      simp only [Option.some.injEq, Prod.mk.injEq] at h
      obtain ⟨rfl, rfl⟩ := h
      exact ⟨by simp, by unfold encLetter; rw [if_pos h1]; rfl⟩
    · rw [if_neg h1] at h
      by_cases h2 : x = 117
      · rw [if_pos h2] at h
        match r, h with
        | a :: b :: y :: z :: r', h =>
          simp only at h
          by_cases h3 : a = 48 ∧ b = 48 ∧ 0 ≤ hexIx 2 y ∧ 0 ≤ hexIx 16 z
          · rw [if_pos h3] at h
            simp only [Option.some.injEq, Prod.mk.injEq] at h
            obtain ⟨rfl, rfl⟩ := h
            obtain ⟨rfl, rfl, hy, hz⟩ := h3
            have ay := hex2_back y hy
            have az := hex16_back z hz
            refine ⟨by simp, ?_⟩
            rw [enc_low (by omega), h2]
            rw [show (16 * hexIx 2 y + hexIx 16 z).toNat / 16 = (hexIx 2 y).toNat by omega, show (16 * hexIx 2 y + hexIx 16 z).toNat % 16 = (hexIx 16 z).toNat by omega, ay.2, az.2]
            rfl
          · rw [if_neg h3] at h; cases h
        | [], h => simp at h
        | [_], h => simp at h
        | [_, _], h => simp at h
        | [_, _, _], h => simp at h
      · rw [if_neg h2] at h; cases h
/-- What is written with a backslash is read. -/
theorem enc_esc {c : UInt8} {r s : List UInt8} (h : encLetter c ++ s = 92 :: r) : ∃ n, esc r = some (c, n) := by
  unfold encLetter at h
  by_cases h1 : c = 34 ∨ c = 92
  · rw [if_pos h1] at h
    simp only [List.cons_append, List.nil_append, List.cons.injEq, true_and] at h
    rw [← h]
    exact ⟨1, by simp only [esc]; rw [if_pos h1]⟩
  · rw [if_neg h1] at h
    by_cases h2 : c < 32
    · rw [if_pos h2] at h
      simp only [List.cons_append, List.nil_append, List.cons.injEq, true_and] at h
      rw [← h]
      have hc := UInt8.lt_iff_toNat_lt.1 h2
      have h32 : (32 : UInt8).toNat = 32 := rfl
      rw [h32] at hc
      have e16 := hexIx16_hexD (c.toNat % 16) (by omega)
      have e2 : hexIx 2 (hexD (c.toNat / 16)) = (c.toNat / 16 : Nat) := by
        have : c.toNat / 16 = 0 ∨ c.toNat / 16 = 1 := by omega
        rcases this with e | e
        · rw [e]; decide
        · rw [e]; decide
      refine ⟨5, ?_⟩
      simp only [esc]
      rw [if_neg (by decide), if_pos trivial, e2, e16, if_pos ⟨trivial, trivial, by omega, by omega⟩]
      simp only [Option.some.injEq, Prod.mk.injEq, and_true]
      rw [show (16 * ((c.toNat / 16 : Nat) : Int) + ((c.toNat % 16 : Nat) : Int)).toNat = c.toNat by omega]
      exact UInt8.ofNat_toNat
    · rw [if_neg h2] at h
      simp only [List.cons_append, List.nil_append, List.cons.injEq] at h
      exact absurd (.inr h.1) h1
theorem enc_plain {c : UInt8} (h1 : c ≠ 34) (h2 : c ≠ 92) (h3 : ¬ c.toNat < 32) : encLetter c = [c] := by
  unfold encLetter
  rw [if_neg (by rintro (h | h); exact h1 h; exact h2 h), if_neg (by rw [UInt8.lt_iff_toNat_lt]; exact h3)]
/-- A text and its quote stand at the head. -/
def Txt (l t r : List UInt8) : Prop := l = encL t ++ 34 :: r
theorem txt_none_nil : ¬ ∃ t r, Txt [] t r := fun ⟨t, r, h⟩ => by
  have := congrArg List.length h
  simp at this
theorem txt_none_esc {l : List UInt8} (h : esc l = none) : ¬ ∃ t r, Txt (92 :: l) t r := fun ⟨t, r, e⟩ => by
  cases t with
  | nil => simp [Txt, encL] at e
  | cons a t =>
    unfold Txt at e
    rw [encL_cons, List.append_assoc] at e
    obtain ⟨n, hn⟩ := enc_esc e.symm
    rw [h] at hn
    cases hn
theorem txt_none_low {c : UInt8} {l : List UInt8} (h1 : c ≠ 34) (h2 : c ≠ 92) (h3 : c.toNat < 32) : ¬ ∃ t r, Txt (c :: l) t r := fun ⟨t, r, e⟩ => by
  cases t with
  | nil => simp [Txt, encL] at e; exact h1 e.1
  | cons a t =>
    unfold Txt at e
    rw [encL_cons, List.append_assoc] at e
    unfold encLetter at e
    split at e
    · simp at e; exact h2 e.1
    · split at e
      · simp at e; exact h2 e.1
      · rename_i h4
        simp at e
        rw [← e.1, UInt8.lt_iff_toNat_lt] at h4
        exact h4 h3
theorem txt_after {acc l : List UInt8} (h : ¬ ∃ t r, Txt l t r) : ¬ ∃ t r, Txt (encL acc ++ l) t r := by
  induction acc with
  | nil => exact h
  | cons a acc ih =>
    rintro ⟨t, r, e⟩
    unfold Txt at e
    rw [encL_cons, List.append_assoc] at e
    cases t with
    | nil => exact absurd e letter_quote
    | cons b t =>
      rw [encL_cons, List.append_assoc] at e
      exact ih ⟨t, r, (letter_apart e).2⟩
theorem rest_cons {s : ByteArray} {i : Nat} (hi : i < s.size) : rest s i = s[i] :: rest s (i + 1) := by
  unfold rest
  rw [List.drop_eq_getElem_cons (by simpa using hi)]
  rfl
theorem rest_end (s : ByteArray) : rest s s.size = [] := by unfold rest; simp
theorem rest_length (s : ByteArray) (i : Nat) : (rest s i).length = s.size - i := by unfold rest; simp
theorem rest_drop (s : ByteArray) (i n : Nat) : (rest s i).drop n = rest s (i + n) := by unfold rest; rw [List.drop_drop]
end Go.Proofs.YtmmjkhkcffgeiaaDoor
