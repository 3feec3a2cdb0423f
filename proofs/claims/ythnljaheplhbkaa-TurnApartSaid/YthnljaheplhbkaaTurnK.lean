/- The statements' example of layer 7 holds. -/
import Derived.Test.YthnljaheplhbkaaTurnI
import Derived.Test.YthnljaheplhbkaaTurnP
namespace Go.Proofs.Ythnljaheplhbkaa
open Go Go.RowKit
set_option linter.unusedVariables false
set_option linter.unusedSimpArgs false

theorem wy_step' {W : World} {S : Nat} {l : Bool} {i : Int} {k : ByteArray} (h : Whole W S 48 #[.bool l, .int .i64 i, .string k]) : Wy W (some ⟨S, 0, none⟩) 1 [⟨l, i, k⟩] := ⟨fun _ => ⟨_, rfl, rfl, h.lt, fun j s hs => by
  match j, hs with
  | 0, hs => simp at hs; subst hs; exact ⟨h.cell 0, h.cell 1, h.cell 2⟩
  | j + 1, hs => simp at hs⟩, Nat.le_refl _, by decide⟩
def tkA : GC := ⟨1, [⟨true, 1, ⟨#[]⟩⟩], ⟨#[]⟩, 0, 0, 1, noG, ⟨#[]⟩⟩
def tkB : GC := ⟨4, [], ⟨#[]⟩, 0, 0, 0, noG, ⟨#[]⟩⟩
def tkC : GC := ⟨1, [⟨true, 2, ⟨#[]⟩⟩], ⟨#[]⟩, 0, 0, 1, noG, ⟨#[]⟩⟩
def tkP : GC := ⟨2, [], ⟨#[97]⟩, 0, 0, 0, noG, ⟨#[]⟩⟩
theorem noG_w : noG.weight ≤ 1000000000 := by unfold noG; simp only [GV.weight, GV.weights, List.map_nil, List.sum_nil]; decide
theorem tkA_bd : CBd tkA := ⟨noG_w, by decide, by decide, by decide, fun s hs => by simp [tkA] at hs; subst hs; decide⟩
theorem tkP_bd : CBd tkP := ⟨noG_w, by decide, by decide, by decide, fun s hs => by simp [tkP] at hs⟩
theorem tk_at : atV 1 4 0 0 = 2 ∧ atB 1 4 0 = true := by decide +kernel
theorem tk_begins : begins tkA.path tkB.path = true := by simp [tkA, tkB, begins, Lib.allEq]
theorem tk_begins2 : begins tkP.path tkP.path = true := by simp [tkP, begins, Lib.allEq]

theorem tk_one {W : World} {S : Nat} (h : Whole W S 48 #[.bool true, .int .i64 1, .string ⟨#[]⟩]) :
    Calls Try.prog 9 #[.agg #[.int .u8 1, .slice (some ⟨S, 0, none⟩) 1 1, .string ⟨#[]⟩, .int .i64 0, .int .i64 0, .int .i64 1, .int .u8 0, .int .i64 0, .string ⟨#[]⟩, .slice none 0 0, .slice none 0 0, .string ⟨#[]⟩], .agg #[.int .u8 4, .slice none 0 0, .string ⟨#[]⟩, .int .i64 0, .int .i64 0, .int .i64 0, .int .u8 0, .int .i64 0, .string ⟨#[]⟩, .slice none 0 0, .slice none 0 0, .string ⟨#[]⟩], .bool true] W (AloneIs tkC W) := by
  have ha : Cc W tkA (some ⟨S, 0, none⟩) none none 1 0 0 := ⟨wy_step' h, vl_noG W⟩
  have hb : Cc W tkB none none none 0 0 0 := ⟨wy_nil W, vl_noG W⟩
  have key : Calls Try.prog 9 _ W (Ret fun v w' => AloneIs tkC W (.returned v) w') :=
    turn_longer tkA tkB _ _ _ _ _ _ _ _ _ _ _ _ W ha hb true (fun v w' => AloneIs tkC W (.returned v) w') tk_begins (by decide) fun W1 hb1 =>
      in_list4 tkA _ _ _ none none none _ _ _ 0 0 0 4 0 0 [] ⟨#[]⟩ ⟨#[]⟩ 0 noG ⟨true, 1, ⟨#[]⟩⟩ W1 (ha.later hb1) rfl rfl rfl _ fun W2 hb2 =>
        (inside_there tkA _ _ _ none none none _ _ _ 0 0 0 4 0 0 1 0 [] ⟨#[]⟩ ⟨#[]⟩ 0 noG ⟨true, 1, ⟨#[]⟩⟩ W2 ((ha.later hb1).later hb2) tkA_bd rfl rfl (by decide) (by decide) (by decide) tk_at.2).mono fun e w' hq => by
          rw [tk_at.1] at hq
          obtain ⟨b, A, AL, AO, cp, cL, cO, rfl, h1, h2, h3, h4⟩ := hq
          exact ⟨_, rfl, b, A, AL, AO, cp, cL, cO, rfl, Nat.le_trans (Nat.le_trans hb1.size hb2.size) h1, h2, h3, (hb1.trans (hb2.mono hb1.size)).trans (h4.mono (Nat.le_trans hb1.size hb2.size))⟩
  exact key.mono fun e w' ⟨v, he, hq⟩ => by rw [he]; exact hq
theorem tk_two (W : World) :
    Calls Try.prog 9 #[.agg #[.int .u8 2, .slice none 0 0, .string ⟨#[97]⟩, .int .i64 0, .int .i64 0, .int .i64 0, .int .u8 0, .int .i64 0, .string ⟨#[]⟩, .slice none 0 0, .slice none 0 0, .string ⟨#[]⟩], .agg #[.int .u8 2, .slice none 0 0, .string ⟨#[97]⟩, .int .i64 0, .int .i64 0, .int .i64 0, .int .u8 0, .int .i64 0, .string ⟨#[]⟩, .slice none 0 0, .slice none 0 0, .string ⟨#[]⟩], .bool false] W fun e w' => e = .returned (.slice none 0 0) ∧ Below W.heap.size W w' := by
  have ha : Cc W tkP none none none 0 0 0 := ⟨wy_nil W, vl_noG W⟩
  have key : Calls Try.prog 9 _ W (Ret fun v w' => v = .slice none 0 0 ∧ Below W.heap.size W w') :=
    turn_same tkP tkP _ _ _ _ _ _ _ _ _ _ _ _ W ha ha false (fun v w' => v = .slice none 0 0 ∧ Below W.heap.size W w') tk_begins2 (by decide) fun W1 hb1 =>
      (same_put_put_right tkP tkP _ _ _ _ _ _ _ _ _ _ _ _ W1 (ha.later hb1) tkP_bd rfl rfl (by decide +kernel)).mono fun e w' ⟨he, hb⟩ => ⟨_, he, rfl, hb1.trans (hb.mono hb1.size)⟩
  exact key.mono fun e w' ⟨v, he, hv, hb⟩ => by rw [he, hv]; exact ⟨rfl, hb⟩

set_option maxRecDepth 100000 in
set_option maxHeartbeats 4000000 in
theorem tknown_true (w : World) : Calls Try.prog 5 #[] w fun e w' => e = .returned (.bool true) ∧ Below w.heap.size w w' := by
  have H0 := Lib.hid (Whole.new w 48 #[.bool true, .int .i64 1, .string ⟨#[]⟩])
  have HB0 := Lib.hid (below_alloc w (.cells #[.bool true, .int .i64 1, .string ⟨#[]⟩] 48))
  have HT2 := Lib.hid tk_two
  go_enter Try.func5, Try.ntmps5
  go_wp2_with (first
    | (go_at_call 9; (with_reducible refine (tk_one H0.out).mono ?_); rintro e w1 ⟨b, A, AL, AO, cp, cL, cO, rfl, h1, h2, h3, h4⟩; have H1 := Lib.hid (And.intro h2 (And.intro h3 (And.intro (HB0.out.trans (h4.mono (by simp))) (H0.out.below h4 (by simp))))); clear h1 h2 h3 h4)
    | (go_at_call 9; (with_reducible refine (HT2.out _).mono ?_); rintro e w2 ⟨rfl, hb⟩; have H2 := Lib.hid (And.intro (H1.out.1.below hb H1.out.1.lt) (And.intro (H1.out.2.1.later hb) (And.intro (H1.out.2.2.1.trans (hb.mono H1.out.2.2.1.size)) (H1.out.2.2.2.below hb H1.out.2.2.2.lt)))); clear hb; obtain ⟨d0, d1, d2, d3, d4, d5, d6, d7, d8, d9, d10, d11, _⟩ := H2.out.1.tw; have hp1 := (H2.out.2.2.2.cell 1).trans rfl; obtain ⟨⟨pb, po, sp⟩, rfl, hsp, _, hst⟩ := H2.out.2.1.path.steps (by simp [tkC]); simp only at hsp; subst hsp; have hx := (hst 0 _ rfl).2.1; simp only [Nat.zero_mul, Nat.add_zero] at hx))
  go_ret
  exact ⟨rfl, H2.out.2.2.1⟩
end Go.Proofs.Ythnljaheplhbkaa
