/- Texts in one: TextM, TextW, TextT, TextV. -/
import Derived.WalkKit
import Derived.Lib.RuneCount
import Derived.Lib.RuneCountTail
import Derived.Lib.TrimU
import Derived.Lib.TrimUEq
import Derived.Lib.ValidLaws
/- Where the characters of a text begin, as plain mathematics: a width is told for each place. Nothing of the program is spoken of here. -/
namespace Go.Proofs.YthnljaheplhbkaaDoor
set_option linter.unusedVariables false
set_option linter.unusedSimpArgs false

/-- Where the k-th character begins; the end, if there is none. -/
def cutAt (wd : Nat → Nat) (n : Nat) : Nat → Nat
  | 0 => 0
  | k + 1 => if cutAt wd n k < n then cutAt wd n k + wd (cutAt wd n k) else n
/-- Each character has a byte and ends within the text. -/
def Wide (wd : Nat → Nat) (n : Nat) : Prop := ∀ p, p < n → 1 ≤ wd p ∧ p + wd p ≤ n
/-- There are so many characters. -/
structure Chars (wd : Nat → Nat) (n c : Nat) : Prop where
  lt : ∀ k, k < c → cutAt wd n k < n
  eq : cutAt wd n c = n

theorem cut_le {wd : Nat → Nat} {n : Nat} (h : Wide wd n) : ∀ k, cutAt wd n k ≤ n
  | 0 => Nat.zero_le _
  | k + 1 => by
    unfold cutAt
    split
    · exact (h _ ‹_›).2
    · exact Nat.le_refl _
theorem cut_next {wd : Nat → Nat} {n k : Nat} (h : cutAt wd n k < n) : cutAt wd n (k + 1) = cutAt wd n k + wd (cutAt wd n k) := by
  rw [cutAt, if_pos h]
theorem cut_end {wd : Nat → Nat} {n k : Nat} (h : cutAt wd n k = n) : ∀ j, cutAt wd n (k + j) = n
  | 0 => h
  | j + 1 => by rw [← Nat.add_assoc, cutAt, if_neg (by rw [cut_end h j]; omega)]
theorem cut_mono {wd : Nat → Nat} {n : Nat} (h : Wide wd n) (k : Nat) : ∀ j, cutAt wd n k ≤ cutAt wd n (k + j)
  | 0 => Nat.le_refl _
  | j + 1 => by
    refine Nat.le_trans (cut_mono h k j) ?_
    rw [← Nat.add_assoc, cutAt]
    split
    · omega
    · exact cut_le h _
theorem cut_strict {wd : Nat → Nat} {n : Nat} (h : Wide wd n) {k : Nat} (hk : cutAt wd n k < n) {j : Nat} (hj : k < j) : cutAt wd n k < cutAt wd n j := by
  obtain ⟨d, rfl⟩ := Nat.exists_eq_add_of_lt hj
  have h1 := cut_next hk
  have h2 := cut_mono h (k + 1) d
  have h3 := (h _ hk).1
  rw [show k + 1 + d = k + d + 1 by omega] at h2
  omega
theorem cut_grows {wd : Nat → Nat} {n : Nat} (h : Wide wd n) : ∀ k, k ≤ n → k ≤ cutAt wd n k
  | 0, _ => Nat.zero_le _
  | k + 1, hk => by
    have h1 := cut_grows h k (by omega)
    rw [cutAt]
    split
    · have := (h _ ‹_›).1; omega
    · exact hk
/-- There are some, not more than bytes. -/
theorem chars_some {wd : Nat → Nat} {n : Nat} (h : Wide wd n) : ∃ c, c ≤ n ∧ Chars wd n c := by
  have key : ∀ d k, k + d = n → (∀ j, j < k → cutAt wd n j < n) → ∃ c, c ≤ n ∧ Chars wd n c := fun d => by
    induction d with
    | zero => exact fun k hk hj => ⟨n, Nat.le_refl _, fun j hjn => hj j (by omega), Nat.le_antisymm (cut_le h _) (cut_grows h n (Nat.le_refl _))⟩
    | succ d ih =>
      intro k hk hj
      by_cases hc : cutAt wd n k < n
      · exact ih (k + 1) (by omega) (fun j hjk => if e : j = k then e ▸ hc else hj j (by omega))
      · exact ⟨k, by omega, hj, Nat.le_antisymm (cut_le h _) (by omega)⟩
  exact key n 0 (by omega) (fun j hj => absurd hj (by omega))
theorem Chars.one {wd : Nat → Nat} {n c d : Nat} (hc : Chars wd n c) (hd : Chars wd n d) : c = d := by
  rcases Nat.lt_trichotomy c d with h | h | h
  · exact absurd (hd.lt c h) (by rw [hc.eq]; omega)
  · exact h
  · exact absurd (hc.lt d h) (by rw [hd.eq]; omega)
theorem Chars.past {wd : Nat → Nat} {n c k : Nat} (hc : Chars wd n c) (hk : c ≤ k) : cutAt wd n k = n := by
  obtain ⟨j, rfl⟩ := Nat.exists_eq_add_of_le hk
  exact cut_end hc.eq j
theorem Chars.iff {wd : Nat → Nat} {n c k : Nat} (hc : Chars wd n c) : cutAt wd n k < n ↔ k < c := by
  refine ⟨fun h => ?_, hc.lt k⟩
  by_cases hk : k < c
  · exact hk
  · exact absurd h (by rw [hc.past (by omega)]; omega)
/-- What lies behind a cut, read as a text of its own. -/
theorem cut_shift {wd : Nat → Nat} {n : Nat} (h : Wide wd n) (i : Nat) : ∀ k, cutAt (fun p => wd (cutAt wd n i + p)) (n - cutAt wd n i) k + cutAt wd n i = cutAt wd n (i + k)
  | 0 => by simp [cutAt]
  | k + 1 => by
    have ih := cut_shift h i k
    have h1 := cut_le h i
    have h2 := cut_le h (i + k)
    rw [← Nat.add_assoc, cutAt, cutAt]
    by_cases hl : cutAt wd n (i + k) < n
    · rw [if_pos hl, if_pos (by omega), Nat.add_comm (cutAt wd n i) (cutAt _ _ k), ih]
      omega
    · rw [if_neg hl, if_neg (by omega)]
      omega
theorem Chars.shift {wd : Nat → Nat} {n c i : Nat} (h : Wide wd n) (hc : Chars wd n c) (hi : i ≤ c) : Chars (fun p => wd (cutAt wd n i + p)) (n - cutAt wd n i) (c - i) := by
  have h1 := cut_le h i
  refine ⟨fun k hk => ?_, ?_⟩
  · have h2 := cut_shift h i k
    have h3 := hc.lt (i + k) (by omega)
    omega
  · have h2 := cut_shift h i (c - i)
    rw [Nat.add_sub_cancel' hi, hc.eq] at h2
    omega
/-- All cuts, as a list. -/
def cutsL (wd : Nat → Nat) (n k : Nat) : List Nat := (List.range k).map (cutAt wd n)
theorem cuts_len (wd : Nat → Nat) (n k : Nat) : (cutsL wd n k).length = k := by simp [cutsL]
theorem cuts_get (wd : Nat → Nat) (n k : Nat) {j : Nat} (h : j < k) : (cutsL wd n k)[j]? = some (cutAt wd n j) := by simp [cutsL, h]
theorem cuts_succ (wd : Nat → Nat) (n k : Nat) : cutsL wd n (k + 1) = cutsL wd n k ++ [cutAt wd n k] := by simp [cutsL, List.range_succ]
end Go.Proofs.YthnljaheplhbkaaDoor

/- Where the characters of a string begin. -/
namespace Go.Proofs.YthnljaheplhbkaaDoor
open Go Go.Lib
set_option linter.unusedVariables false
set_option linter.unusedSimpArgs false

/-- How many bytes the character has that begins at a place. -/
def wdS (s : ByteArray) (p : Nat) : Nat := (Utf8.decode s p).2
theorem decodeN_within (n b0 b1 b2 b3 : Nat) (hn : 1 ≤ n) : (decodeN n b0 b1 b2 b3).2 ≤ n := by
  unfold decodeN
  (repeat' split) <;> simp only <;> omega
theorem wide_str (s : ByteArray) : Wide (wdS s) s.size := fun p hp => by
  refine ⟨width_pos s p, ?_⟩
  unfold wdS
  rw [decode_at]
  have := decodeN_within (s.size - p) (s.get! p).toNat (s.get! (p + 1)).toNat (s.get! (p + 2)).toNat (s.get! (p + 3)).toNat (by omega)
  omega
theorem wd_tail (s : ByteArray) (n : Nat) : wdS (s.extract n s.size) = fun p => wdS s (n + p) := funext fun p => by
  unfold wdS
  rw [tail_decode]
/-- The byte at which the k-th character of a string begins; its end, if there is none. -/
def cutS (s : ByteArray) (k : Nat) : Nat := cutAt (wdS s) s.size k
/-- A string has so many characters. -/
def CharsS (s : ByteArray) (c : Nat) : Prop := Chars (wdS s) s.size c
theorem charsS_some (s : ByteArray) : ∃ c, c ≤ s.size ∧ CharsS s c := chars_some (wide_str s)
theorem cutS_le (s : ByteArray) (k : Nat) : cutS s k ≤ s.size := cut_le (wide_str s) k
theorem tail_size (s : ByteArray) (n : Nat) (h : n ≤ s.size) : (s.extract n s.size).size = s.size - n := by simp [ByteArray.size_extract]
theorem cutS_tail (s : ByteArray) (i k : Nat) : cutS (s.extract (cutS s i) s.size) k + cutS s i = cutS s (i + k) := by
  have h := cut_shift (wide_str s) i k
  unfold cutS at *
  rw [wd_tail, tail_size s _ (cut_le (wide_str s) i)]
  exact h
theorem CharsS.tail {s : ByteArray} {c i : Nat} (hc : CharsS s c) (hi : i ≤ c) : CharsS (s.extract (cutS s i) s.size) (c - i) := by
  have h := Chars.shift (wide_str s) hc hi
  unfold CharsS cutS
  rw [wd_tail, tail_size s _ (cut_le (wide_str s) i)]
  exact h
theorem tail_tail (s : ByteArray) (a b : Nat) (ha : a ≤ s.size) : (s.extract a s.size).extract b (s.extract a s.size).size = s.extract (a + b) s.size := by
  rw [tail_size s a ha, ByteArray.extract_extract]
  congr 1
  omega
/-- A text put in ahead of a character. -/
def insS (s : ByteArray) (i : Nat) (t : ByteArray) : ByteArray := s.extract 0 (cutS s i) ++ t ++ s.extract (cutS s i) s.size
/-- So many characters taken out. -/
def delS (s : ByteArray) (i n : Nat) : ByteArray := s.extract 0 (cutS s i) ++ s.extract (cutS s (i + n)) s.size
theorem del_tail (s : ByteArray) (i n : Nat) : (s.extract (cutS s i) s.size).extract (cutS (s.extract (cutS s i) s.size) n) (s.extract (cutS s i) s.size).size = s.extract (cutS s (i + n)) s.size := by
  rw [tail_tail s _ _ (cutS_le s i), Nat.add_comm, cutS_tail]
/-- Check's answer where there are so many characters. -/
def chkT (c : Int) (k : Nat) (i n : Int) : Int :=
  if k = 8 then (if 0 ≤ i ∧ i ≤ c then 0 else 32) else if k = 9 then (if (0 ≤ i ∧ i ≤ c) ∧ (1 ≤ n ∧ n ≤ c - i) then 0 else 32) else 31
/-- It may be done: then the place and the number are natural ones. -/
theorem chkT_ok {c k : Nat} {i n : Int} (h : chkT c k i n = 0) : ∃ i' : Nat, i = i' ∧ i' ≤ c ∧ (k = 8 ∨ (k = 9 ∧ ∃ n' : Nat, n = n' ∧ 1 ≤ n' ∧ i' + n' ≤ c)) := by
  unfold chkT at h
  by_cases h8 : k = 8
  · rw [if_pos h8] at h
    split at h
    · exact ⟨i.toNat, by omega, by omega, .inl h8⟩
    · omega
  · rw [if_neg h8] at h
    by_cases h9 : k = 9
    · rw [if_pos h9] at h
      split at h
      · exact ⟨i.toNat, by omega, by omega, .inr ⟨h9, n.toNat, by omega, by omega, by omega⟩⟩
      · omega
    · rw [if_neg h9] at h
      omega
end Go.Proofs.YthnljaheplhbkaaDoor

/- What is done to a text, as a list of characters, and what is to be done behind something else: both ways come to one text. Nothing of the program is spoken of here. -/
namespace Go.Proofs.YthnljaheplhbkaaDoor
set_option linter.unusedVariables false
set_option linter.unusedSimpArgs false

variable {α : Type}
/-- A text is put in ahead of the i-th character, or n characters from the i-th on are gone. -/
inductive TC (α : Type) where
  | ins (i : Nat) (t : List α)
  | del (i n : Nat)
def doT (l : List α) : TC α → List α
  | .ins i t => l.take i ++ (t ++ l.drop i)
  | .del i n => l.take i ++ l.drop (i + n)
def okT (m : Nat) : TC α → Prop
  | .ins i _ => i ≤ m
  | .del i n => i + n ≤ m
def doTs (l : List α) (cs : List (TC α)) : List α := cs.foldl doT l
/-- The first behind the second. -/
def turnT : TC α → TC α → Bool → List (TC α)
  | .ins i t, .ins j u, left => [.ins (if j < i ∨ (j = i ∧ left = false) then i + u.length else i) t]
  | .ins i t, .del j m, _ => [.ins (if j + m ≤ i then i - m else if j < i then j else i) t]
  | .del i n, .ins j u, _ => if j ≤ i then [.del (i + u.length) n] else if i + n ≤ j then [.del i n] else [.del i (j - i), .del (i + u.length) (n - (j - i))]
  | .del i n, .del j m, _ =>
    if n = min (i + n) (j + m) - max i j then [] else [.del (i - (min i (j + m) - j)) (n - (min (i + n) (j + m) - max i j))]

theorem insT_get (l t : List α) (i : Nat) (h : i ≤ l.length) (k : Nat) : (doT l (.ins i t))[k]? = if k < i then l[k]? else if k < i + t.length then t[k - i]? else l[k - t.length]? := by
  unfold doT
  have ht : (l.take i).length = i := by simp; omega
  by_cases h1 : k < i
  · rw [if_pos h1, List.getElem?_append_left (by omega), List.getElem?_take, if_pos h1]
  · rw [if_neg h1, List.getElem?_append_right (by omega), ht]
    by_cases h2 : k < i + t.length
    · rw [if_pos h2, List.getElem?_append_left (by omega)]
    · rw [if_neg h2, List.getElem?_append_right (by omega), List.getElem?_drop]
      congr 1
      omega
theorem delT_get (l : List α) (i n : Nat) (h : i ≤ l.length) (k : Nat) : (doT l (.del i n))[k]? = if k < i then l[k]? else l[k + n]? := by
  unfold doT
  have ht : (l.take i).length = i := by simp; omega
  by_cases h1 : k < i
  · rw [if_pos h1, List.getElem?_append_left (by omega), List.getElem?_take, if_pos h1]
  · rw [if_neg h1, List.getElem?_append_right (by omega), ht, List.getElem?_drop]
    congr 1
    omega
theorem insT_len (l t : List α) (i : Nat) : (doT l (.ins i t)).length = l.length + t.length := by
  unfold doT
  simp
  omega
theorem delT_len (l : List α) (i n : Nat) (h : i + n ≤ l.length) : (doT l (.del i n)).length = l.length - n := by
  unfold doT
  simp
  omega
theorem ins_insT (l t u : List α) (i j : Nat) (hi : i ≤ l.length) (hj : j ≤ l.length) (left : Bool) (h : j < i ∨ (j = i ∧ left = false)) :
    doT (doT l (.ins j u)) (.ins (i + u.length) t) = doT (doT l (.ins i t)) (.ins j u) := by
  have a := insT_get (doT l (.ins j u)) t (i + u.length) (by rw [insT_len]; omega)
  have b := insT_get l u j hj
  have c := insT_get (doT l (.ins i t)) u j (by rw [insT_len]; omega)
  have d := insT_get l t i hi
  refine List.ext_getElem? fun k => ?_
  simp only [a, b, c, d]
  (repeat' split) <;> first | omega | rfl | (congr 1; omega)
theorem del_insT (l u : List α) (i n j : Nat) (hi : i + n ≤ l.length) (hj : j ≤ l.length) (left : Bool) :
    doTs (doT l (.ins j u)) (turnT (.del i n) (.ins j u) left) = doTs (doT l (.del i n)) (turnT (.ins j u) (.del i n) (!left)) := by
  have b := insT_get l u j hj
  have d := delT_get l i n (by omega)
  have lb := insT_len l u j
  have ld := delT_len l i n hi
  simp only [turnT]
  by_cases h1 : j ≤ i
  · rw [if_pos h1]
    simp only [doTs, List.foldl_cons, List.foldl_nil]
    have a := delT_get (doT l (.ins j u)) (i + u.length) n (by omega)
    by_cases h0 : i + n ≤ j
    · rw [if_pos h0]
      have c := insT_get (doT l (.del i n)) u (j - n) (by omega)
      refine List.ext_getElem? fun k => ?_
      simp only [a, b, c, d]
      (repeat' split) <;> first | omega | rfl | (congr 1; omega)
    · rw [if_neg h0, if_neg (by omega)]
      have c := insT_get (doT l (.del i n)) u j (by omega)
      refine List.ext_getElem? fun k => ?_
      simp only [a, b, c, d]
      (repeat' split) <;> first | omega | rfl | (congr 1; omega)
  · rw [if_neg h1]
    by_cases h2 : i + n ≤ j
    · rw [if_pos h2, if_pos h2]
      simp only [doTs, List.foldl_cons, List.foldl_nil]
      have a := delT_get (doT l (.ins j u)) i n (by omega)
      have c := insT_get (doT l (.del i n)) u (j - n) (by omega)
      refine List.ext_getElem? fun k => ?_
      simp only [a, b, c, d]
      (repeat' split) <;> first | omega | rfl | (congr 1; omega)
    · rw [if_neg h2, if_neg h2, if_pos (by omega)]
      simp only [doTs, List.foldl_cons, List.foldl_nil]
      have hl : (doT (doT l (.ins j u)) (.del i (j - i))).length = l.length + u.length - (j - i) := by rw [delT_len _ _ _ (by omega), lb]
      have a := delT_get (doT l (.ins j u)) i (j - i) (by omega)
      have e := delT_get (doT (doT l (.ins j u)) (.del i (j - i))) (i + u.length) (n - (j - i)) (by omega)
      have c := insT_get (doT l (.del i n)) u i (by omega)
      refine List.ext_getElem? fun k => ?_
      simp only [a, b, c, d, e]
      (repeat' split) <;> first | omega | rfl | (congr 1; omega)
/-- What a deletion leaves of another: its place and its number. -/
theorem behindT {i n j m : Nat} : ∃ I N, I = i - (min i (j + m) - j) ∧ N = n - (min (i + n) (j + m) - max i j) ∧
    ((i + n ≤ j ∧ I = i ∧ N = n) ∨ (j + m ≤ i ∧ I + m = i ∧ N = n) ∨ (i ≤ j ∧ j + m ≤ i + n ∧ I = i ∧ N + m = n) ∨ (j ≤ i ∧ i + n ≤ j + m ∧ N = 0 ∧ I = j) ∨ (i ≤ j ∧ j ≤ i + n ∧ i + n ≤ j + m ∧ I = i ∧ i + N = j) ∨ (j ≤ i ∧ i ≤ j + m ∧ j + m ≤ i + n ∧ I = j ∧ j + m + N = i + n)) := ⟨_, _, rfl, rfl, by omega⟩
theorem del_none (l : List α) (i : Nat) : doT l (.del i 0) = l := by
  show l.take i ++ l.drop (i + 0) = l
  rw [Nat.add_zero]
  exact List.take_append_drop i l
theorem turn_del (L : List α) (i n j m I N : Nat) (left : Bool) (hI : I = i - (min i (j + m) - j)) (hN : N = n - (min (i + n) (j + m) - max i j)) :
    doTs L (turnT (.del i n) (.del j m) left) = doT L (.del I N) := by
  subst hI hN
  simp only [turnT]
  split
  · rename_i h
    rw [show n - (min (i + n) (j + m) - max i j) = 0 by omega, del_none]
    rfl
  · rfl
set_option maxHeartbeats 8000000 in
theorem del_delT (l : List α) (i n j m : Nat) (hi : i + n ≤ l.length) (hj : j + m ≤ l.length) (left : Bool) :
    doTs (doT l (.del j m)) (turnT (.del i n) (.del j m) left) = doTs (doT l (.del i n)) (turnT (.del j m) (.del i n) (!left)) := by
  obtain ⟨I, N, hI, hN, h1⟩ := behindT (i := i) (n := n) (j := j) (m := m)
  obtain ⟨J, M, hJ, hM, h2⟩ := behindT (i := j) (n := m) (j := i) (m := n)
  rw [turn_del _ i n j m I N left hI hN, turn_del _ j m i n J M (!left) hJ hM]
  clear hI hN hJ hM
  have b := delT_get l j m (by omega)
  have d := delT_get l i n (by omega)
  have lb := delT_len l j m hj
  have ld := delT_len l i n hi
  rcases h1 with h1 | h1 | h1 | h1 | h1 | h1 <;> rcases h2 with h2 | h2 | h2 | h2 | h2 | h2 <;> first
    | (exfalso; omega)
    | (have a := delT_get (doT l (.del j m)) I N (by omega)
       have c := delT_get (doT l (.del i n)) J M (by omega)
       refine List.ext_getElem? fun k => ?_
       simp only [a, b, c, d]
       (repeat' split) <;> first | omega | rfl | (congr 1; omega))
/-- Both ways come to one text. -/
theorem meetsT (l : List α) (a b : TC α) (ha : okT l.length a) (hb : okT l.length b) (left : Bool) :
    doTs (doT l b) (turnT a b left) = doTs (doT l a) (turnT b a (!left)) := by
  cases a with
  | ins i t =>
    cases b with
    | ins j u =>
      simp only [okT] at ha hb
      simp only [turnT, doTs, List.foldl_cons, List.foldl_nil]
      by_cases h : j < i ∨ (j = i ∧ left = false)
      · rw [if_pos h, if_neg (by rcases h with h | ⟨h, rfl⟩ <;> simp <;> omega)]
        exact ins_insT l t u i j ha hb left h
      · have h' : i < j ∨ (i = j ∧ (!left) = false) := by
          cases left
          · exact .inl (by simp at h; omega)
          · simp at h ⊢; omega
        rw [if_neg h, if_pos h']
        exact (ins_insT l u t j i hb ha (!left) h').symm
    | del j m =>
      have h := (del_insT l t j m i hb ha (!left)).symm
      rw [Bool.not_not] at h
      exact h
  | del i n =>
    cases b with
    | ins j u => exact del_insT l u i n j ha hb left
    | del j m => exact del_delT l i n j m ha hb left
/-- What is to be done behind may be done. -/
theorem turnT_okD (m : Nat) (i n j k : Nat) (ha : okT m (.del i n : TC α)) (hb : okT m (.del j k : TC α)) (left : Bool) : ∀ c ∈ turnT (.del i n : TC α) (.del j k) left, okT (m - k) c := by
  simp only [okT] at ha hb
  simp only [turnT]
  intro c hc
  split at hc
  · simp at hc
  · simp only [List.mem_singleton] at hc
    subst hc
    simp only [okT]
    omega
end Go.Proofs.YthnljaheplhbkaaDoor

/- Characters of valid UTF-8 stay what they are wherever they stand. -/
namespace Go.Proofs.YthnljaheplhbkaaDoor
open Go Go.Lib
set_option linter.unusedVariables false
set_option linter.unusedSimpArgs false

/-- A character that is one is read alike wherever its bytes stand. -/
theorem decodeN_alike (n n' b0 b1 b2 b3 c1 c2 c3 : Nat) (h : decodeN n b0 b1 b2 b3 ≠ (65533, 1)) (hn : (decodeN n b0 b1 b2 b3).2 ≤ n') (h1 : 2 ≤ (decodeN n b0 b1 b2 b3).2 → c1 = b1) (h2 : 3 ≤ (decodeN n b0 b1 b2 b3).2 → c2 = b2) (h3 : 4 ≤ (decodeN n b0 b1 b2 b3).2 → c3 = b3) :
    decodeN n' b0 c1 c2 c3 = decodeN n b0 b1 b2 b3 := by
  generalize hd : decodeN n b0 b1 b2 b3 = d at *
  unfold decodeN at hd
  split at hd
  · subst hd
    unfold decodeN
    rw [if_pos ‹_›]
  · rename_i a0
    split at hd
    · rename_i a1
      split at hd
      · rename_i a2
        subst hd
        obtain rfl := h1 (Nat.le_refl 2)
        unfold decodeN
        rw [if_neg a0, if_pos ⟨a1.1, by simp only at hn; omega, a1.2.2⟩, if_pos a2]
      · exact absurd hd.symm h
    · rename_i a1
      split at hd
      · rename_i a2
        split at hd
        · rename_i a3
          subst hd
          obtain rfl := h1 (by show 2 ≤ _; omega)
          obtain rfl := h2 (Nat.le_refl 3)
          simp only at hn
          unfold decodeN
          rw [if_neg a0, if_neg (by omega), if_pos ⟨a2.1, ⟨by omega, a2.2.1.2⟩, by omega, a2.2.2.2⟩, if_pos a3]
        · exact absurd hd.symm h
      · rename_i a2
        split at hd
        · rename_i a3
          split at hd
          · rename_i a4
            subst hd
            obtain rfl := h1 (by show 2 ≤ _; omega)
            obtain rfl := h2 (by show 3 ≤ _; omega)
            obtain rfl := h3 (Nat.le_refl 4)
            simp only at hn
            unfold decodeN
            rw [if_neg a0, if_neg (by omega), if_neg (by omega), if_pos ⟨a3.1, ⟨by omega, a3.2.1.2⟩, ⟨by omega, a3.2.2.1.2⟩, by omega, a3.2.2.2.2⟩, if_pos a4]
          · exact absurd hd.symm h
        · exact absurd hd.symm h
/-- A width that is told of a character: its bytes alone say it. -/
theorem decode_alike (s t : ByteArray) (p q : Nat) (h : Utf8.decode s p ≠ (65533, 1)) (hq : q + wdS s p ≤ t.size) (hb : ∀ j, j < wdS s p → t.get! (q + j) = s.get! (p + j)) : Utf8.decode t q = Utf8.decode s p := by
  unfold wdS at hq hb
  have hw := width_pos s p
  have h0 := hb 0 (by omega)
  simp only [Nat.add_zero] at h0
  rw [decode_at t q, decode_at s p, h0]
  rw [decode_at s p] at h hq hb
  exact decodeN_alike _ _ _ _ _ _ _ _ _ h (by omega) (fun h => by rw [hb 1 (by omega)]) (fun h => by rw [hb 2 (by omega)]) (fun h => by rw [hb 3 (by omega)])
/-- The bytes of one character of valid UTF-8. -/
def IsChar (u : List UInt8) : Prop := decodeL u ≠ (65533, 1) ∧ (decodeL u).2 = u.length
theorem IsChar.pos {u : List UInt8} (h : IsChar u) : 1 ≤ u.length := by rw [← h.2]; exact width_pos _ _
theorem decodeL_char {u : List UInt8} (r : List UInt8) (h : IsChar u) : decodeL (u ++ r) = decodeL u := by
  have h0 := h.pos
  obtain ⟨h1, h2⟩ := h
  rw [decodeL_N] at h1 h2
  rw [decodeL_N, decodeL_N u]
  have hg : ∀ j, j < u.length → (u ++ r).getD j 0 = u.getD j 0 := fun j hj => by
    simp only [List.getD]
    rw [List.getElem?_append_left hj]
  rw [hg 0 (by omega)]
  exact decodeN_alike _ _ _ _ _ _ _ _ _ h1 (by rw [h2]; simp) (fun h => by rw [hg 1 (by omega)]) (fun h => by rw [hg 2 (by omega)]) (fun h => by rw [hg 3 (by omega)])
/-- A string is these characters, one behind the other. -/
def Reads (s : ByteArray) (cs : List (List UInt8)) : Prop := s.data.toList = cs.flatten ∧ ∀ u ∈ cs, IsChar u
theorem Reads.size {s : ByteArray} {cs : List (List UInt8)} (h : Reads s cs) : s.size = cs.flatten.length := by
  rw [← h.1]
  exact Array.length_toList.symm
theorem flat_take {α : Type} (cs : List (List α)) (k : Nat) (h : k < cs.length) : (cs.take (k + 1)).flatten.length = (cs.take k).flatten.length + cs[k].length := by
  rw [List.take_succ_eq_append_getElem h, List.flatten_append, List.length_append]
  congr 1
  rw [List.flatten_cons, List.flatten_nil, List.append_nil]
theorem flat_drop {α : Type} (cs : List (List α)) (k : Nat) : cs.flatten.drop (cs.take k).flatten.length = (cs.drop k).flatten := by
  have h : cs.flatten = (cs.take k).flatten ++ (cs.drop k).flatten := by rw [← List.flatten_append, List.take_append_drop]
  rw [h]
  exact List.drop_left
theorem Reads.cut {s : ByteArray} {cs : List (List UInt8)} (h : Reads s cs) : ∀ k, cutS s k = (cs.take k).flatten.length
  | 0 => by simp [cutS, cutAt]
  | k + 1 => by
    have ih := Reads.cut h k
    have hs := h.size
    unfold cutS at *
    rw [cutAt, ih]
    by_cases hk : k < cs.length
    · have h1 := flat_take cs k hk
      have h2 := (h.2 _ (List.getElem_mem hk)).pos
      have h3 : (cs.take (k + 1)).flatten.length ≤ cs.flatten.length := by
        have e : cs.flatten = (cs.take (k + 1)).flatten ++ (cs.drop (k + 1)).flatten := by rw [← List.flatten_append, List.take_append_drop]
        rw [e, List.length_append]
        omega
      rw [if_pos (by omega), h1]
      congr 1
      unfold wdS
      rw [← decodeL_drop, h.1, flat_drop, List.drop_eq_getElem_cons hk, List.flatten_cons, decodeL_char _ (h.2 _ (List.getElem_mem hk))]
      exact (h.2 _ (List.getElem_mem hk)).2
    · rw [List.take_of_length_le (by omega), ← hs, if_neg (by omega), List.take_of_length_le (by omega), hs]
theorem Reads.chars {s : ByteArray} {cs : List (List UInt8)} (h : Reads s cs) : CharsS s cs.length := by
  refine ⟨fun k hk => ?_, ?_⟩
  · have h1 := h.cut k
    have h2 := flat_take cs k hk
    have h3 := (h.2 _ (List.getElem_mem hk)).pos
    have h4 := h.cut (k + 1)
    have h5 := cutS_le s (k + 1)
    unfold cutS at h1
    omega
  · have h1 := h.cut cs.length
    rw [List.take_length] at h1
    rw [h.size]
    unfold cutS at h1
    rw [h.size] at h1
    exact h1
theorem extract_list (s : ByteArray) (a b : Nat) : (s.extract a b).data.toList = (s.data.toList.take b).drop a := by
  rw [ByteArray.data_extract, Array.toList_extract, List.extract_eq_take_drop]
  rw [List.drop_take]
/-- What is done to a string is done to its characters. -/
theorem Reads.ins {s t : ByteArray} {cs ts : List (List UInt8)} (h : Reads s cs) (ht : Reads t ts) (i : Nat) : Reads (insS s i t) (doT cs (.ins i ts)) := by
  refine ⟨?_, fun u hu => ?_⟩
  · unfold insS doT
    rw [ByteArray.data_append, ByteArray.data_append, Array.toList_append, Array.toList_append, extract_list, extract_list, h.cut, List.drop_zero, h.1, ht.1, h.size, List.take_length, flat_drop]
    simp only [List.flatten_append, List.append_assoc]
    congr 1
    have e : cs.flatten = (cs.take i).flatten ++ (cs.drop i).flatten := by rw [← List.flatten_append, List.take_append_drop]
    rw [e]
    exact List.take_left
  · unfold doT at hu
    rcases List.mem_append.1 hu with hu | hu
    · exact h.2 u (List.mem_of_mem_take hu)
    · rcases List.mem_append.1 hu with hu | hu
      · exact ht.2 u hu
      · exact h.2 u (List.mem_of_mem_drop hu)
theorem Reads.del {s : ByteArray} {cs : List (List UInt8)} (h : Reads s cs) (i n : Nat) : Reads (delS s i n) (doT cs (.del i n)) := by
  refine ⟨?_, fun u hu => ?_⟩
  · unfold delS doT
    rw [ByteArray.data_append, Array.toList_append, extract_list, extract_list, h.cut, h.cut, List.drop_zero, h.1, h.size, List.take_length, flat_drop]
    simp only [List.flatten_append]
    congr 1
    have e : cs.flatten = (cs.take i).flatten ++ (cs.drop i).flatten := by rw [← List.flatten_append, List.take_append_drop]
    rw [e]
    exact List.take_left
  · unfold doT at hu
    rcases List.mem_append.1 hu with hu | hu
    · exact h.2 u (List.mem_of_mem_take hu)
    · exact h.2 u (List.mem_of_mem_drop hu)
theorem width_within (l : List UInt8) (h : l ≠ []) : (decodeL l).2 ≤ l.length := by
  have hl : 1 ≤ l.length := by
    cases l with
    | nil => exact absurd rfl h
    | cons _ _ => simp
  rw [decodeL_N]
  exact decodeN_within _ _ _ _ _ hl
theorem char_of (l : List UInt8) (h : l ≠ []) (hv : decodeL l ≠ (65533, 1)) : IsChar (l.take (decodeL l).2) := by
  have hw := width_within l h
  have h1 : 1 ≤ (decodeL l).2 := width_pos _ _
  have hlen : (l.take (decodeL l).2).length = (decodeL l).2 := by rw [List.length_take]; omega
  have hg : ∀ j, j < (decodeL l).2 → (l.take (decodeL l).2).getD j 0 = l.getD j 0 := fun j hj => by
    simp only [List.getD]
    rw [List.getElem?_take, if_pos hj]
  have he : decodeL (l.take (decodeL l).2) = decodeL l := by
    generalize hd : (decodeL l).2 = d at *
    rw [decodeL_N, decodeL_N l, hlen, hg 0 (by omega)]
    rw [decodeL_N] at hd hv
    exact decodeN_alike _ _ _ _ _ _ _ _ _ hv (by omega) (fun h => by rw [hg 1 (by omega)]) (fun h => by rw [hg 2 (by omega)]) (fun h => by rw [hg 3 (by omega)])
  exact ⟨by rw [he]; exact hv, by rw [he, hlen]⟩
/-- Valid UTF-8 is characters, one behind the other. -/
theorem chars_of : ∀ (n : Nat) (l : List UInt8), l.length ≤ n → validD l = true → ∃ cs : List (List UInt8), l = cs.flatten ∧ ∀ u ∈ cs, IsChar u
  | 0, l, hn, _ => ⟨[], by simpa using hn, by simp⟩
  | n + 1, l, hn, hv => by
    by_cases hl : l = []
    · exact ⟨[], by simpa using hl, by simp⟩
    · rw [validD_step l hl] at hv
      split at hv
      · exact absurd hv (by simp)
      · rename_i hd
        have h1 : 1 ≤ (decodeL l).2 := width_pos _ _
        obtain ⟨cs, hc, hi⟩ := chars_of n (l.drop (decodeL l).2) (by rw [List.length_drop]; omega) hv
        refine ⟨l.take (decodeL l).2 :: cs, ?_, ?_⟩
        · rw [List.flatten_cons, ← hc, List.take_append_drop]
        · intro u hu
          rcases List.mem_cons.1 hu with rfl | hu
          · exact char_of l hl (fun e => hd ⟨by rw [e], by rw [e]⟩)
          · exact hi u hu
theorem reads_of {s : ByteArray} (h : validD s.data.toList = true) : ∃ cs, Reads s cs := by
  obtain ⟨cs, h1, h2⟩ := chars_of _ _ (Nat.le_refl _) h
  exact ⟨cs, h1, h2⟩
/-- One text is read in one way. -/
theorem Reads.bytes {s t : ByteArray} {cs : List (List UInt8)} (h : Reads s cs) (h' : Reads t cs) : s = t := by
  have e := h.1.trans h'.1.symm
  cases s with
  | mk a =>
    cases t with
    | mk b =>
      congr 1
      exact Array.toList_inj.1 e
end Go.Proofs.YthnljaheplhbkaaDoor
