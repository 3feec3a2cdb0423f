/- CompAdds, the Go function: it comes out true. -/
import Derived.Test.YtmdiiejhamameaaDoorCompEx
namespace Go.Proofs.YtmdiiejhamameaaDoor
open Go Go.RowKit
set_option linter.unusedVariables false
set_option linter.unusedSimpArgs false

/-- A list of one number. -/
theorem lG_vl {W : World} {b : Nat} {n : Int} (h : Whole W b 31 #[.int .u8 2, .int .i64 n, .string ⟨#[]⟩, .slice none 0 0, .slice none 0 0]) : Vl W (lG n) (some ⟨b, 0, none⟩) none 1 0 := by
  have hc : ∀ (j : Nat) (u : Value), (#[.int .u8 2, .int .i64 n, .string ⟨#[]⟩, .slice none 0 0, .slice none 0 0] : Array Value).toList[j]? = some u → W.cell? ⟨b, 0 + j, none⟩ = some u := fun j u hu => by rw [Nat.zero_add, h.cell]; simpa using hu
  exact ⟨.inr ⟨b, 0, 1, rfl, Nat.le_refl _, by decide, h.kind trivial, RowL.els (xs := (#[.int .u8 2, .int .i64 n, .string ⟨#[]⟩, .slice none 0 0, .slice none 0 0] : Array Value).toList) ⟨_, _, _, rfl, .inl ⟨rfl, rfl⟩, ⟨rfl, .inl ⟨rfl, rfl⟩⟩, rfl⟩ hc⟩, ⟨rfl, .inl ⟨rfl, rfl⟩⟩⟩
theorem lG_num {W : World} {n : Int} {AL AO : Option Addr} {cL cO : Nat} (h : Vl W (lG n) AL AO cL cO) : ∃ b o, AL = some ⟨b, o, none⟩ ∧ b < W.heap.size ∧ W.cell? ⟨b, o + 1, none⟩ = some (.int .i64 n) := by
  rcases h.lst with ⟨h0, _⟩ | ⟨b, o, c, he, _, _, hK, hE⟩
  · exact absurd h0 (by simp [lG, GV.items])
  · simp only [Value.slice.injEq] at he
    obtain ⟨rfl, _, rfl⟩ := he
    obtain ⟨L, O, c0, c1, _⟩ := GV.at_iff.1 (GV.els_get hE (i := 0) (g := nG n) rfl)
    rw [show o + 0 * 5 + 1 = o + 1 by omega] at c1
    exact ⟨b, o, rfl, hK.lt, c1⟩
theorem wrap_back (n m : Int) (hn : -9223372036854775808 ≤ n ∧ n ≤ 9223372036854775807) : wrap64 (wrap64 (n + m) + wrap64 (-m)) = n := by unfold wrap64; omega

/-- What lies there. -/
structure AB (w W : World) (n : Int) : Prop where
  row : Whole W w.heap.size 31 #[.int .u8 2, .int .i64 n, .string ⟨#[]⟩, .slice none 0 0, .slice none 0 0]
  box : Whole W (w.heap.size + 1) 31 #[.int .u8 4, .int .i64 0, .string ⟨#[]⟩, .slice (some ⟨w.heap.size, 0, none⟩) 1 1, .slice none 0 0]
  step : Whole W (w.heap.size + 1 + 1) 60 #[.bool true, .int .i64 0, .string ⟨#[]⟩]
  below : Below w.heap.size w W
theorem AB.later {w W W' : World} {n : Int} (h : AB w W n) (hb : Below W.heap.size W W') : AB w W' n := ⟨h.row.below hb h.row.lt, h.box.below hb h.box.lt, h.step.below hb h.step.lt, h.below.trans (hb.mono h.below.size)⟩
theorem AB.start (w : World) (n : Int) : AB w (((w.alloc (.cells #[.int .u8 2, .int .i64 n, .string ⟨#[]⟩, .slice none 0 0, .slice none 0 0] 31)).alloc (.cells #[.int .u8 4, .int .i64 0, .string ⟨#[]⟩, .slice (some ⟨w.heap.size, 0, none⟩) 1 1, .slice none 0 0] 31)).alloc (.cells #[.bool true, .int .i64 0, .string ⟨#[]⟩] 60)) n := by
  have h2 := (whole_new1 w (.cells #[.int .u8 2, .int .i64 n, .string ⟨#[]⟩, .slice none 0 0, .slice none 0 0] 31) 31 #[.int .u8 4, .int .i64 0, .string ⟨#[]⟩, .slice (some ⟨w.heap.size, 0, none⟩) 1 1, .slice none 0 0]).alloc (.cells #[.bool true, .int .i64 0, .string ⟨#[]⟩] 60)
  have h3 := Whole.new ((w.alloc (.cells #[.int .u8 2, .int .i64 n, .string ⟨#[]⟩, .slice none 0 0, .slice none 0 0] 31)).alloc (.cells #[.int .u8 4, .int .i64 0, .string ⟨#[]⟩, .slice (some ⟨w.heap.size, 0, none⟩) 1 1, .slice none 0 0] 31)) 60 #[.bool true, .int .i64 0, .string ⟨#[]⟩]
  rw [World.size_alloc, World.size_alloc] at h3
  exact ⟨((Whole.new w _ _).alloc _).alloc _, h2, h3, (((Below.refl _ w).alloc (Nat.le_refl _) _).alloc (by simp) _).alloc (by simp; omega) _⟩

set_option maxRecDepth 100000 in
set_option maxHeartbeats 8000000 in
theorem adds_true (n m : Int) (w : World) (hn : -9223372036854775808 ≤ n ∧ n ≤ 9223372036854775807) (hT : Tabs w) : Calls Tryd.prog 6 #[.int .i64 n, .int .i64 m] w (TrueBelow w) := by
  have HD1 := Lib.hid (fun W (hK : AB w W n) => (add_ok n m (lG (wrap64 (n + m))) (lG_vl hK.row) (lG_weight n) hK.step (by decide) (by decide +kernel) (get_0 n) (put_0 n _) (hT.below hK.below (Nat.le_refl _))).mono (R' := fun e w' => ∃ (A : Option Addr) (dL b o dO : Nat), e = .returned (.tuple #[.agg #[.int .u8 4, .int .i64 0, .string ⟨#[]⟩, .slice (some ⟨b, o, none⟩) 1 dL, .slice A 0 dO], .int .u16 0]) ∧ (Vl w' (lG (wrap64 (n + m))) (some ⟨b, o, none⟩) A dL dO ∧ ∀ W'', Below w'.heap.size w' W'' → W''.cell? ⟨b, o + 1, none⟩ = some (.int .i64 (wrap64 (n + m)))) ∧ Below W.heap.size W w') fun e w' ⟨BL, BO, dL, dO, he, hv, hb⟩ => by
    obtain ⟨b, o, rfl, hlt, hc⟩ := lG_num hv
    exact ⟨BO, dL, b, o, dO, he, ⟨hv, fun W'' hb' => (hb'.cell (p := ⟨b, o + 1, none⟩) hlt).trans hc⟩, hb⟩)
  have HD2 := Lib.hid (fun W (b o dL dO : Nat) (A : Option Addr) (hK : AB w W n) (hv : Vl W (lG (wrap64 (n + m))) (some ⟨b, o, none⟩) A dL dO) => (add_ok (wrap64 (n + m)) (wrap64 (-m)) (lG n) hv (lG_weight _) hK.step (by decide) (by decide +kernel) (get_0 _) ((put_0 _ _).trans (by rw [wrap_back n m hn]; rfl)) (hT.below hK.below (Nat.le_refl _))).mono (R' := fun e w' => ∃ (A B : Option Addr) (dL dO : Nat), e = .returned (.tuple #[.agg #[.int .u8 4, .int .i64 0, .string ⟨#[]⟩, .slice B 1 dL, .slice A 0 dO], .int .u16 0]) ∧ Vl w' (lG n) B A dL dO ∧ Below W.heap.size W w') fun e w' ⟨BL, BO, dL, dO, he, hv, hb⟩ => ⟨BO, BL, dL, dO, he, hv, hb⟩)
  have HKN := Lib.hid (fun W (hK : AB w W n) => cknown_true W (hT.below hK.below (Nat.le_refl _)))
  have HSM := Lib.hid (fun W (A B : Option Addr) (dL dO : Nat) (hK : AB w W n) (hv : Vl W (lG n) B A dL dO) => same_is hv (lG_vl hK.row) (by have := lG_weight n; omega))
  have HK0 := Lib.hid (AB.start w n)
  clear hT hn
  unfold TrueBelow at HKN
  go_enter Tryd.func6, Tryd.ntmps6
  go_wp2_with (first
    | (go_at_call 16; refine (HD1.out _ HK0.out).mono ?_; rintro e w1 ⟨A1, d1, b1, o1, e1, rfl, hc, hb⟩; have HK1 := Lib.hid (HK0.out.later hb); have HC1 := Lib.hid hc; clear hc hb HD1)
    | (go_at_call 16; refine (HD2.out _ _ _ _ _ _ (HK1.out.later (below_alloc w1 _)) (HC1.out.1.later (below_alloc w1 _))).mono ?_; rintro e w2 ⟨A2, B2, d2, e2, rfl, hv, hb⟩; have HB2 := Lib.hid ((below_alloc w1 (.cells #[.int .u8 4, .int .i64 0, .string ⟨#[]⟩, .slice (some ⟨b1, o1, none⟩) 1 d1, .slice A1 0 e1] 31)).trans (hb.mono (by simp))); have HK2 := Lib.hid (HK1.out.later HB2.out); have HV2 := Lib.hid hv; have HX2 := Lib.hid ((Whole.new w1 31 #[.int .u8 4, .int .i64 0, .string ⟨#[]⟩, .slice (some ⟨b1, o1, none⟩) 1 d1, .slice A1 0 e1]).below hb (by simp)); clear hv hb HD2)
    | (go_at_call 8; refine (HKN.out _ (HK2.out.later (below_alloc w2 _))).mono ?_; rintro e w3 ⟨rfl, hb⟩; have HB3 := Lib.hid ((below_alloc w2 (.cells #[.int .u8 4, .int .i64 0, .string ⟨#[]⟩, .slice B2 1 d2, .slice A2 0 e2] 31)).trans (hb.mono (by simp))); have HK3 := Lib.hid (HK2.out.later HB3.out); have HY3 := Lib.hid ((Whole.new w2 31 #[.int .u8 4, .int .i64 0, .string ⟨#[]⟩, .slice B2 1 d2, .slice A2 0 e2]).below hb (by simp)); have x3 := (HX2.out.below HB3.out HX2.out.lt).five.c3; have x1 := HC1.out.2 w3 (HB2.out.trans (HB3.out.mono HB2.out.size)); obtain ⟨y0, y1, y2, y3, y4, _⟩ := HY3.out.five; obtain ⟨v0, v1, v2, v3, v4, _⟩ := HK3.out.box.five; clear hb HKN)
    | (go_at_call 19; refine (HSM.out _ _ _ _ _ HK3.out (HV2.out.later HB3.out)).mono ?_; rintro e w4 ⟨rfl, hb⟩; have HB4 := Lib.hid (HK3.out.below.trans (hb.mono HK3.out.below.size)); clear hb))
  go_ret
  exact ⟨rfl, HB4.out⟩
theorem adds_row (hi : Nat) (n m : Int) (w : World) (hhi : hi ≤ w.heap.size) (hn : -9223372036854775808 ≤ n ∧ n ≤ 9223372036854775807) (hm : -9223372036854775808 ≤ m ∧ m ≤ 9223372036854775807) (hT : Tabs w) : Calls Tryd.prog 6 #[.int .i64 n, .int .i64 m] w (TrueBelow w) := adds_true n m w hn hT
end Go.Proofs.YtmdiiejhamameaaDoor
