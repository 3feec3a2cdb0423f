/- json's writer: comma and text. -/
import Derived.Test.YtmmjkhkcffgeiaaDoorWLow
import Derived.IntWalk
namespace Go.Proofs.YtmmjkhkcffgeiaaDoor
open Go Go.RowKit Go.Shelf

theorem bld_alloc {B b : Nat} {bs : List Value} {W : World} (h : Bld B b bs W) (o : Obj) : Bld B b bs (W.alloc o) := by
  have key : ∀ p, Lib.BuilderAt 50 5 B b p bs W → Lib.BuilderAt 50 5 B b p bs (W.alloc o) := fun p h => by
    obtain ⟨h1, v, h2, h3, h4⟩ := id h
    exact ⟨h1, v, (Below.heap_alloc _ _ _ h.lt).trans h2, h3.alloc o, h4⟩
  exact h.imp (key _) (key _)
theorem bldAt_alloc {B b : Nat} {bs : List Value} {W : World} (h : BldAt B b bs W) (o : Obj) : BldAt B b bs (W.alloc o) := by
  obtain ⟨h1, v, h2, h3, h4⟩ := id h
  exact ⟨h1, v, (Below.heap_alloc _ _ _ h.lt).trans h2, h3.alloc o, h4⟩

set_option maxHeartbeats 2000000 in
set_option maxRecDepth 100000 in
theorem w_comma (B b : Nat) (bs : List Value) (k : Nat) (W : World) (h : BldAt B b bs W) (hlen : bs.length + 1 ≤ 140737488355328) :
    Calls Tryd.prog 55 #[.pointer (some ⟨b, 0, none⟩), .int .i64 k] W (WPost B b (bs ++ Lib.byteCells (if k = 0 then [] else [44])) W) := by
  have HB := Lib.hid h
  have H1 := Lib.hid (bld_byte B b bs 44 W (.inr h) hlen)
  clear h
  by_cases hk : k = 0
  · subst hk
    go_enter Tryd.func55, Tryd.ntmps55
    go_wp2
    go_end0
    exact ⟨rfl, by simpa [Lib.byteCells] using HB.out, Wr.refl _ _ _⟩
  · have hk0 : (0 : Int) < k := by omega
    go_enter Tryd.func55, Tryd.ntmps55
    go_wp2_with (go_at_call 53; refine H1.out.mono ?_; rintro e W1 ⟨rfl, h1⟩; have K1 := Lib.hid h1; clear h1)
    go_end0
    refine ⟨rfl, ?_, K1.out.2⟩
    exact K1.out.1

/-- What has been written of a text. -/
def TextRel (B b : Nat) (bs : List Value) (s : ByteArray) (W : World) (i : Value) (wr : World) : Prop :=
  ∃ k : Nat, i = .int .i64 k ∧ k ≤ s.size ∧ BldAt B b (bs ++ Lib.byteCells (34 :: encL (s.data.toList.take k))) wr ∧ Wr B b W wr
theorem encL_take_succ (s : ByteArray) (k : Nat) (h : k < s.size) : encL (s.data.toList.take (k + 1)) = encL (s.data.toList.take k) ++ encLetter s[k] := by
  rw [List.take_succ_eq_append_getElem (by simpa using h), encL_append]
  simp [encL]
  rfl
theorem byteCells_app (a b : List UInt8) : Lib.byteCells (a ++ b) = Lib.byteCells a ++ Lib.byteCells b := by simp [Lib.byteCells]
theorem encL_take_len (s : ByteArray) (k : Nat) : (encL (s.data.toList.take k)).length ≤ 6 * s.size := by
  have h1 := encL_len (s.data.toList.take k)
  have h2 : (s.data.toList.take k).length ≤ s.size := by rw [List.length_take]; simp; omega
  omega

set_option maxHeartbeats 4000000 in
set_option maxRecDepth 100000 in
theorem w_text (B b : Nat) (bs : List Value) (s : ByteArray) (W : World) (h : Bld B b bs W) (hlen : bs.length + 6 * s.size + 8 ≤ 140737488355328) :
    Calls Tryd.prog 39 #[.pointer (some ⟨b, 0, none⟩), .string s] W (WPost B b (bs ++ Lib.byteCells (encText s.data.toList)) W) := by
  have H1 := Lib.hid (bld_byte B b bs 34 W h (by omega))
  clear h
  go_enter Tryd.func39, Tryd.ntmps39
  go_wp2_with (go_at_call 53; refine H1.out.mono ?_; rintro e W1 ⟨rfl, h1⟩; have K1 := Lib.hid h1; clear h1)
  go_loopw [11] (TextRel B b bs s W) (fun i _ => s.size - (intOf i).toNat)
  case atStart => exact ⟨0, rfl, Nat.zero_le _, by simpa [encL, Lib.byteCells] using K1.out.1, K1.out.2⟩
  case round =>
    obtain ⟨k, rfl, hk, hb, hw⟩ := hrel
    have HR := Lib.hid (And.intro hb hw)
    have hl := encL_take_len s k
    have hl2 : (bs ++ Lib.byteCells (34 :: encL (s.data.toList.take k))).length = bs.length + 1 + (encL (s.data.toList.take k)).length := by
      rw [List.length_append, Lib.byteCells_length, List.length_cons]; omega
    by_cases hlt : k < s.size
    · have HE := Lib.hid (encL_take_succ s k hlt)
      have HC := Lib.hid (w_letter B b _ s[k] wr (.inr hb) (by rw [hl2]; omega))
      clear hb hw hl hl2
      go_wp2_with (go_at_call 54; refine HC.out.mono ?_; rintro e W2 ⟨rfl, h2⟩; have K2 := Lib.hid h2; clear h2)
      go_roundw
      case rel => exact ⟨k + 1, by go_num, by omega, by rw [HE.out, ← List.cons_append, byteCells_app, ← List.append_assoc]; exact K2.out.1, HR.out.2.trans K2.out.2⟩
      case measure => simp [intOf]; omega
    · have hke : k = s.size := by omega
      subst hke
      have HC := Lib.hid (bld_byte B b _ 34 wr (.inr hb) (by rw [hl2]; omega))
      clear hb hw hl hl2
      go_wp2_with (go_at_call 53; refine HC.out.mono ?_; rintro e W2 ⟨rfl, h2⟩; have K2 := Lib.hid h2; clear h2)
      go_end0
      refine ⟨rfl, ?_, HR.out.2.trans K2.out.2⟩
      have := K2.out.1
      rw [List.take_of_length_le (by simp)] at this
      simpa [encText, Lib.byteCells] using this
end Go.Proofs.YtmmjkhkcffgeiaaDoor
