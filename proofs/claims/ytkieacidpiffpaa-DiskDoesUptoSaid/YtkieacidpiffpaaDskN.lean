/- The statements' example: it comes out true. -/
import Derived.Test.YtkieacidpiffpaaDskL
namespace Go.Proofs.Ytkieacidpiffpaa
open Go Go.RowKit Go.Shelf
set_option linter.unusedVariables false
set_option linter.unusedSimpArgs false

/-- Nothing that was there has turned; the disk's own blocks are new. -/
structure Un (w : World) (own : Nat → Prop) (W : World) : Prop where
  below : Below w.heap.size w W
  own : ∀ i, own i → w.heap.size ≤ i
theorem Un.next {w W W' : World} {own own' : Nat → Prop} (h : Un w own W) (k : Nx own W W' own') : Un w own' W' := by
  obtain ⟨h1, h2⟩ := k.below h.below.size h.own
  exact ⟨h.below.trans h1, h2⟩
theorem Un.then {w W W' : World} {own : Nat → Prop} (h : Un w own W) (k : Below W.heap.size W W') : Un w own W' := ⟨h.below.trans (k.mono h.below.size), h.own⟩
theorem Un.alloc {w W : World} {own : Nat → Prop} (h : Un w own W) (o : Obj) : Un w own (W.alloc o) := h.then ((Below.refl _ _).alloc (Nat.le_refl _) o)
abbrev sA : ByteArray := ⟨#[97]⟩
abbrev sB : ByteArray := ⟨#[98]⟩
abbrev mA (bs : List Int) (n : Nat) : Md := ⟨100, false, -1, [⟨sA, bs, n⟩]⟩
set_option maxRecDepth 100000 in
set_option maxHeartbeats 2000000 in
theorem known_true (w : World) : Calls Try.prog 9 #[] w fun e w' => e = .returned (.bool true) ∧ Below w.heap.size w w' := by
  have e1 : (⟨100, false, -1, []⟩ : Md).append sA [1, 2] = (mA [1, 2] 0, 0) := rfl
  have e2 : (mA [1, 2] 0).sync sA = (mA [1, 2] 2, 0) := rfl
  have e3 : (mA [1, 2] 2).append sA [3, 4, 5] = (mA [1, 2, 3, 4, 5] 2, 0) := rfl
  have e4 : (mA [1, 2, 3, 4, 5] 2).crash 1 = mA [1, 2, 3] 3 := rfl
  have e5 : readB (mA [1, 2, 3] 3) sA = [1, 2, 3] := rfl
  have e6 : readC (mA [1, 2, 3] 3) sA = 0 := rfl
  have e7 : (mA [1, 2, 3] 3).sync sB = (mA [1, 2, 3] 3, 131) := rfl
  have E := Lib.hid (And.intro e1 (And.intro e2 (And.intro e3 (And.intro e4 (And.intro e5 (And.intro e6 e7))))))
  have F := Lib.hid (show Byte [1, 2] ∧ Byte [3, 4, 5] ∧ sA.size ≤ 30 ∧ sB.size ≤ 30 ∧ [(1 : Int), 2].length ≤ 9223372036854775807 ∧ [(3 : Int), 4, 5].length ≤ 9223372036854775807 from
    ⟨fun x hx => by simp at hx; omega, fun x hx => by simp at hx; omega, by decide, by decide, by decide, by decide⟩)
  clear e1 e2 e3 e4 e5 e6 e7
  go_enter Try.func9, Try.ntmps9
  go_wp2_with (first
    | (go_at_call 10; ((with_reducible refine (l_new w 100 (by omega) 100 rfl).mono ?_); rintro e w1 ⟨own1, B, rfl, hL, ho, hb⟩; have U1 := Lib.hid (Un.mk hb ho); have L1 := Lib.hid hL; have S1 := Lib.hid (show Src own1 (w1.alloc (.cells #[.int .u8 1, .int .u8 2] 5)) (some ⟨w1.heap.size, 0, none⟩) [1, 2] from lits_src hL [1, 2]); clear hL ho hb))
    | (go_at_call 11; ((with_reducible refine (l_append (L1.out.below ((Below.refl _ _).alloc (Nat.le_refl _) _)) (some ⟨w1.heap.size, 0, none⟩) 2 2 sA [1, 2] S1.out F.out.2.2.1 F.out.1 F.out.2.2.2.2.1 rfl E.out.1).mono ?_); rintro e w2 ⟨rfl, own2, hL, hN⟩; have U2 := Lib.hid ((U1.out.alloc _).next hN); have L2 := Lib.hid hL; clear hL hN))
    | (go_at_call 12; ((with_reducible refine (l_sync L2.out sA F.out.2.2.1 E.out.2.1).mono ?_); rintro e w3 ⟨rfl, own3, hL, hN⟩; have U3 := Lib.hid (U2.out.next hN); have L3 := Lib.hid hL; have S3 := Lib.hid (show Src own3 (w3.alloc (.cells #[.int .u8 3, .int .u8 4, .int .u8 5] 5)) (some ⟨w3.heap.size, 0, none⟩) [3, 4, 5] from lits_src hL [3, 4, 5]); clear hL hN))
    | (go_at_call 11; ((with_reducible refine (l_append (L3.out.below ((Below.refl _ _).alloc (Nat.le_refl _) _)) (some ⟨w3.heap.size, 0, none⟩) 3 3 sA [3, 4, 5] S3.out F.out.2.2.1 F.out.2.1 F.out.2.2.2.2.2 rfl E.out.2.2.1).mono ?_); rintro e w4 ⟨rfl, own4, hL, hN⟩; have U4 := Lib.hid ((U3.out.alloc _).next hN); have L4 := Lib.hid hL; clear hL hN))
    | (go_at_call 15; ((with_reducible refine (l_crash L4.out 1 (by decide) E.out.2.2.2.1).mono ?_); rintro e w5 ⟨rfl, own5, hL, hN⟩; have U5 := Lib.hid (U4.out.next hN); have L5 := Lib.hid hL; clear hL hN))
    | (go_at_call 14; ((with_reducible refine (l_read L5.out sA F.out.2.2.1 E.out.2.2.2.2.1 E.out.2.2.2.2.2.1).mono ?_); rintro e w6 ⟨R, q, rfl, _, hb⟩; have U6 := Lib.hid (U5.out.then hb); have L6 := Lib.hid (L5.out.below hb); clear hb))
    | (go_at_call 12; ((with_reducible refine (l_sync L6.out sB F.out.2.2.2.1 E.out.2.2.2.2.2.2).mono ?_); rintro e w7 ⟨rfl, own7, hL, hN⟩; have U7 := Lib.hid (U6.out.next hN); clear hL hN))
    | (go_at_call 10; ((with_reducible refine (new_no _ (-1) (by omega)).mono ?_); rintro e w8 ⟨rfl, rfl⟩)))
  go_ret
  exact ⟨rfl, U7.out.below⟩
end Go.Proofs.Ytkieacidpiffpaa
