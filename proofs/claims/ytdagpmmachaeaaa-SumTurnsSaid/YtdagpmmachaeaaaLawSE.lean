/- SumEnds, the Go function: it comes out true. -/
import Derived.Test.YtdagpmmachaeaaaLawSB
import Derived.Laws.BytesArg
import Derived.Laws.BytesString
namespace Go.Proofs.Ytdagpmmachaeaaa
open Go Go.RowKit
set_option linter.unusedVariables false
set_option linter.unusedSimpArgs false

/-- Bytes, as a text. -/
theorem conv_str {hi : Nat} {W : World} {A : Option Addr} {bs : List Int} (h : Bytes hi W A bs) (c n : Nat) (hn : n = bs.length) :
    (convert 22 9 (.slice A n c)).run Try.prog W = .ok (.string (strOfNums bs)) W := by
  subst hn
  cases bs with
  | nil =>
    show (convert 22 9 (.slice A 0 c)).run Try.prog W = _
    rw [run_convert_bytes_string W 22 9 5 _ 0 c Try.underlying22 Try.underlying5 Try.underlying9]
    cases A <;> (simp [Conv.bytesToString, loadCells]; rfl)
  | cons x r =>
    obtain ⟨b, o, rfl, _, hc⟩ := h (by simp)
    refine run_convert_bytes_arg W _ _ Try.underlying22 Try.underlying5 b o _ c _ rfl (fun i hi => ?_) _ Try.underlying9
    rw [hc i _ (List.getElem?_eq_getElem hi), List.getD_eq_getElem?_getD, List.getElem?_eq_getElem hi]; rfl
theorem byte_new (W : World) (x : Int) (b : Nat) (hb : b = W.heap.size) : Bytes (b + 1) (W.alloc (.cells #[.int .u8 x] 5)) (some ⟨b, 0, none⟩) [x] := by
  subst hb
  exact Bytes.whole (Whole.new W 5 #[.int .u8 x]) fun i y hy => by
    match i, hy with
    | 0, h => cases h; rfl
    | i + 1, h => simp at h
theorem short_one {x : Int} (hx : 0 ≤ x ∧ x ≤ 255) : Short [x] := ⟨Byte.one hx.1 hx.2, by simp⟩
set_option maxHeartbeats 4000000 in
theorem sends_true (A : Option Addr) (ca : Nat) (bs : List Int) (x y : Int) (w : World) (hA : Bytes w.heap.size w A bs) (hs : Short bs) (hx : 0 ≤ x ∧ x ≤ 255) (hy : 0 ≤ y ∧ y ≤ 255) :
    Calls Try.prog 7 #[.slice A bs.length ca, .int .u8 x, .int .u8 y] w fun e w' => e = .returned (.bool true) ∧ Below w.heap.size w w' := by
  have h2 := hs.2
  have HS := Lib.hid hs
  have HA := Lib.hid hA
  clear hA hs
  have main : ∀ b : Bool, ((x == y) = b) → ((((sumN [bs, [x]] : Nat) : Int) == ((sumN [bs, [y]] : Nat) : Int)) = b) → bs.length ≤ 1500 →
    Calls Try.prog 7 #[.slice A bs.length ca, .int .u8 x, .int .u8 y] w fun e w' => e = .returned (.bool true) ∧ Below w.heap.size w w' := by
    intro b hb1 hb2 hl
    have HX := Lib.hid hx
    have HY := Lib.hid hy
    cases b
    all_goals
      go_enter Try.func7, Try.ntmps7
      go_wp2_with (first
        | (go_at_call 13; refine (known_true _).mono ?_; rintro e W1 ⟨rfl, hb⟩; have HB1 := Lib.hid hb; have hz1 := hb.size; have HA1 := Lib.hid (HA.out.keep hb (Nat.le_refl _)); clear hb; have hc1 := conv_str HA1.out ca _ rfl; have hc2 := conv_str ((((HA1.out.al hz1 (.cells #[.int .u8 x] 5)).al (size_al hz1 _) (.cells #[.slice A bs.length ca, .slice (some ⟨W1.heap.size, 0, none⟩) 1 1] 22)).al (size_al (size_al hz1 _) _) (.cells #[.int .u8 y] 5)).al (size_al (size_al (size_al hz1 _) _) _) (.cells #[.slice A bs.length ca, .slice (some ⟨W1.heap.size + 1 + 1, 0, none⟩) 1 1] 22)) ca _ rfl)
        | (go_at_call 14; ((with_reducible refine (sum_two (b := W1.heap.size + 1) (n := bs.length) (m := 1) (ds := [x]) (W1.alloc (.cells #[.int .u8 x] 5)) ((HA1.out.al hz1 _).up (ho := W1.heap.size + 1) (by omega)) (byte_new W1 x _ rfl) (by simp) HS.out (short_one HX.out) (by simp) rfl rfl).mono ?_); rintro e w4 ⟨rfl, rfl⟩))
        | (go_at_call 14; ((with_reducible refine (sum_two (b := W1.heap.size + 1 + 1 + 1) (n := bs.length) (m := 1) (ds := [y]) _ ((((HA1.out.al hz1 _).al (size_al hz1 _) _).al (size_al (size_al hz1 _) _) _).up (ho := W1.heap.size + 1 + 1 + 1) (by omega)) (byte_new _ y (W1.heap.size + 1 + 1) (by simp)) (by simp) HS.out (short_one HY.out) (by simp) rfl rfl).mono ?_); rintro e w4 ⟨rfl, rfl⟩)))
      go_ret
      exact ⟨rfl, ((((HB1.out.alloc hz1 _).alloc (by simp; omega) _).alloc (by simp; omega) _).alloc (by simp; omega) _)⟩
  by_cases hl : bs.length ≤ 1500
  · by_cases e : x = y
    · subst e; exact main true (by simp) (by simp) hl
    · exact main false (beq_eq_false_iff_ne.2 e) (beq_eq_false_iff_ne.2 fun h => e ((sum_end HS.out.1 hx hy).1 (by exact_mod_cast h))) hl
  · clear main
    go_enter Try.func7, Try.ntmps7
    go_wp2_with (go_at_call 13; refine (known_true _).mono ?_; rintro e W1 ⟨rfl, hb⟩; have HB1 := Lib.hid hb; clear hb)
    go_ret
    exact ⟨rfl, HB1.out⟩
end Go.Proofs.Ytdagpmmachaeaaa
