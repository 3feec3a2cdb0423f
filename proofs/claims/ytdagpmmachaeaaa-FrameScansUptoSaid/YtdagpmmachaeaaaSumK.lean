/- Sums of lists that are made on the spot; what the statements of layer 11 ask first. -/
import Derived.Test.YtdagpmmachaeaaaSumA
import Derived.Test.YtdagpmmachaeaaaBlk
import Derived.Laws.BytesArg
import Derived.Lib.SmallJoins
namespace Go.Proofs.Ytdagpmmachaeaaa
open Go Go.RowKit
set_option linter.unusedVariables false
set_option linter.unusedSimpArgs false

theorem Bytes.keep {hi : Nat} {W W' : World} {A : Option Addr} {bs : List Int} (h : Bytes hi W A bs) {lo : Nat} (hb : Below lo W W') (hl : hi ≤ lo) : Bytes hi W' A bs := by
  intro hne
  obtain ⟨b, o, rfl, hlt, hc⟩ := h hne
  exact ⟨b, o, rfl, hlt, fun i x hx => by rw [hb.cell (p := ⟨b, o + i, none⟩) (by show b < lo; omega)]; exact hc i x hx⟩
theorem Bytes.up {hi ho : Nat} {W : World} {A : Option Addr} {bs : List Int} (h : Bytes hi W A bs) (hl : hi ≤ ho) : Bytes ho W A bs := by
  intro hne
  obtain ⟨b, o, rfl, hlt, hc⟩ := h hne
  exact ⟨b, o, rfl, by omega, hc⟩
theorem Bytes.nil (hi : Nat) (W : World) (A : Option Addr) : Bytes hi W A [] := fun h => absurd rfl h
/-- Bytes that stand in a block whole. -/
theorem Bytes.whole {W : World} {b : Nat} {t : TypeId} {cs : Array Value} (h : Whole W b t cs) {bs : List Int} (hbs : ∀ (i : Nat) (x : Int), bs[i]? = some x → cs[i]? = some (Value.int .u8 x)) : Bytes (b + 1) W (some ⟨b, 0, none⟩) bs := by
  intro _
  refine ⟨b, 0, rfl, by omega, fun i x hx => ?_⟩
  have h2 := hbs i x hx

  rw [Nat.zero_add, h.cell i]; exact h2
theorem rows_new (W : World) {hi : Nat} {A B : Option Addr} {c d : Nat} {bs ds : List Int} (h1 : Bytes hi W A bs) (h2 : Bytes hi W B ds) (hh : hi ≤ W.heap.size) :
    Lists (W.heap.size + 1) (W.alloc (.cells #[.slice A bs.length c, .slice B ds.length d] 22)) (some ⟨W.heap.size, 0, none⟩) [bs, ds] := by
  have hb : Below W.heap.size W (W.alloc (.cells #[.slice A bs.length c, .slice B ds.length d] 22)) := (Below.refl _ _).alloc (Nat.le_refl _) _
  have hw := Whole.new W 22 #[.slice A bs.length c, .slice B ds.length d]
  refine fun _ => ⟨_, 0, rfl, by omega, fun i l hl => ?_⟩
  match i, hl with
  | 0, hl => cases hl; exact ⟨A, c, hw.cell 0, (h1.keep hb hh).up (by omega)⟩
  | 1, hl => cases hl; exact ⟨B, d, hw.cell 1, (h2.keep hb hh).up (by omega)⟩
  | i + 2, hl => simp at hl
theorem row_new (W : World) {hi : Nat} {A : Option Addr} {c : Nat} {bs : List Int} (h1 : Bytes hi W A bs) (hh : hi ≤ W.heap.size) :
    Lists (W.heap.size + 1) (W.alloc (.cells #[.slice A bs.length c] 22)) (some ⟨W.heap.size, 0, none⟩) [bs] := by
  have hb : Below W.heap.size W (W.alloc (.cells #[.slice A bs.length c] 22)) := (Below.refl _ _).alloc (Nat.le_refl _) _
  have hw := Whole.new W 22 #[.slice A bs.length c]
  refine fun _ => ⟨_, 0, rfl, by omega, fun i l hl => ?_⟩
  match i, hl with
  | 0, hl => cases hl; exact ⟨A, c, hw.cell 0, (h1.keep hb hh).up (by omega)⟩
  | i + 1, hl => simp at hl
def Short (bs : List Int) : Prop := Byte bs ∧ bs.length ≤ 9223372036854775807
theorem small_one {a : List Int} (h : Short a) : Small [a] := ⟨by simp, fun l hl => by simp at hl; subst hl; exact h⟩
theorem small_two {a b : List Int} (h : Short a) (h2 : Short b) : Small [a, b] := ⟨by simp, fun l hl => by simp at hl; rcases hl with rfl | rfl; exact h; exact h2⟩
theorem small_none : Small [] := ⟨by simp, fun l hl => by simp at hl⟩
theorem sum_one (W : World) {hi b n : Nat} {A : Option Addr} {c : Nat} {bs : List Int} (h1 : Bytes hi W A bs) (hh : hi ≤ W.heap.size) (hs : Short bs) (hb : b = W.heap.size) (hn : n = bs.length) :
    Calls Try.prog 14 #[.slice (some ⟨b, 0, none⟩) 1 1] (W.alloc (.cells #[.slice A n c] 22)) fun e w' => e = .returned (.int .u32 (sumN [bs])) ∧ (W.alloc (.cells #[.slice A n c] 22)) = w' := by
  subst hb hn; exact sum_any _ _ 1 [bs] _ (row_new W h1 hh) (small_one hs)
theorem sum_two (W : World) {hi b n m : Nat} {A B : Option Addr} {c d : Nat} {bs ds : List Int} (h1 : Bytes hi W A bs) (h2 : Bytes hi W B ds) (hh : hi ≤ W.heap.size) (hs : Short bs) (ht : Short ds) (hb : b = W.heap.size) (hn : n = bs.length) (hm : m = ds.length) :
    Calls Try.prog 14 #[.slice (some ⟨b, 0, none⟩) 2 2] (W.alloc (.cells #[.slice A n c, .slice B m d] 22)) fun e w' => e = .returned (.int .u32 (sumN [bs, ds])) ∧ (W.alloc (.cells #[.slice A n c, .slice B m d] 22)) = w' := by
  subst hb hn hm; exact sum_any _ _ 2 [bs, ds] _ (rows_new W h1 h2 hh) (small_two hs ht)
theorem rsum_one (W : World) {hi b n : Nat} {A : Option Addr} {c : Nat} {bs : List Int} (h1 : Bytes hi W A bs) (hh : hi ≤ W.heap.size) (hs : Short bs) (hb : b = W.heap.size) (hn : n = bs.length) :
    Calls Try.prog 15 #[.slice (some ⟨b, 0, none⟩) 1 1] (W.alloc (.cells #[.slice A n c] 22)) fun e w' => e = .returned (.int .u32 (sumN [bs])) ∧ (W.alloc (.cells #[.slice A n c] 22)) = w' := by
  subst hb hn; exact rsum_any _ _ 1 [bs] _ (row_new W h1 hh) (small_one hs)
theorem rsum_two (W : World) {hi b n m : Nat} {A B : Option Addr} {c d : Nat} {bs ds : List Int} (h1 : Bytes hi W A bs) (h2 : Bytes hi W B ds) (hh : hi ≤ W.heap.size) (hs : Short bs) (ht : Short ds) (hb : b = W.heap.size) (hn : n = bs.length) (hm : m = ds.length) :
    Calls Try.prog 15 #[.slice (some ⟨b, 0, none⟩) 2 2] (W.alloc (.cells #[.slice A n c, .slice B m d] 22)) fun e w' => e = .returned (.int .u32 (sumN [bs, ds])) ∧ (W.alloc (.cells #[.slice A n c, .slice B m d] 22)) = w' := by
  subst hb hn hm; exact rsum_any _ _ 2 [bs, ds] _ (rows_new W h1 h2 hh) (small_two hs ht)
theorem sum_nil (W : World) : Calls Try.prog 14 #[.slice none 0 0] W fun e w' => e = .returned (.int .u32 0) ∧ W = w' :=
  sum_any 0 none 0 [] W (fun h => absurd rfl h) small_none
def nine : Array Value := #[.int .u8 49, .int .u8 50, .int .u8 51, .int .u8 52, .int .u8 53, .int .u8 54, .int .u8 55, .int .u8 56, .int .u8 57]
theorem nine_bytes (W : World) : Bytes (W.heap.size + 1) (W.alloc (.cells nine 5 (9, 10))) (some ⟨W.heap.size, 0, none⟩) [49, 50, 51, 52, 53, 54, 55, 56, 57] := by
  intro _
  refine ⟨W.heap.size, 0, rfl, by omega, fun i x hx => ?_⟩
  rw [Nat.zero_add, World.cell?_alloc_mark]
  match i, hx with
  | 0, h | 1, h | 2, h | 3, h | 4, h | 5, h | 6, h | 7, h | 8, h => cases h; rfl
  | i + 9, h => simp at h
set_option maxHeartbeats 1000000 in
theorem known_true (w : World) : Calls Try.prog 13 #[] w fun e w' => e = .returned (.bool true) ∧ Below w.heap.size w w' := by
  have H1 := Lib.hid (sum_one (b := w.heap.size + 1) (n := 9) (c := 9) _ (nine_bytes w) (by simp) ⟨fun x hx => by simp at hx; omega, by simp⟩ (by simp) rfl)
  have HC : (convert 22 22 (.slice (some ⟨w.heap.size, 0, none⟩) 9 9)).run Try.prog (w.alloc (.cells nine 5)) = .ok (.slice (some ⟨w.heap.size, 0, none⟩) 9 9) (w.alloc (.cells nine 5 (9, 10))) := Lib.run_convert_bytes_const w 22 5 nine 9 9 Try.underlying22 Try.underlying5
  unfold nine at H1 HC
  go_enter Try.func13, Try.ntmps13
  go_wp2_with (first
    | (go_at_call 14; ((with_reducible refine (sum_nil _).mono ?_); rintro e w1 ⟨rfl, rfl⟩))
    | (go_at_call 14; refine H1.out.mono ?_; rw [sum_nine]; rintro e w1 ⟨rfl, rfl⟩))
  go_ret
  exact ⟨rfl, ((Below.refl _ _).alloc (Nat.le_refl _) _).alloc (by simp) _⟩
end Go.Proofs.Ytdagpmmachaeaaa
