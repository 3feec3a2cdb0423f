/- What the statements on lists call, in one form each; the chapter's examples. -/
import Derived.Test.YtlgggalbngpelaaSeqD
import Derived.Test.YtlgggalbngpelaaSeqE
namespace Go.Proofs.Ytlgggalbngpelaa
open Go Go.RowKit
set_option linter.unusedVariables false
set_option linter.unusedSimpArgs false

def zeroG : GV := .mk 0 0 ⟨#[]⟩ [] [] []
def numG (n : Int) : GV := .mk 2 n ⟨#[]⟩ [] [] []
theorem vl_zero (W : World) : Vl W zeroG none none 0 0 := ⟨.inl ⟨rfl, rfl⟩, ⟨rfl, .inl ⟨rfl, rfl⟩⟩⟩
theorem vl_num (W : World) (n : Int) : Vl W (numG n) none none 0 0 := ⟨.inl ⟨rfl, rfl⟩, ⟨rfl, .inl ⟨rfl, rfl⟩⟩⟩
/-- A value that leads nowhere: nothing, or a number. -/
def flat (vk vn : Int) : GV := .mk vk vn ⟨#[]⟩ [] [] []
theorem vl_flat (W : World) (a b : Int) : Vl W (flat a b) none none 0 0 := ⟨.inl ⟨rfl, rfl⟩, ⟨rfl, .inl ⟨rfl, rfl⟩⟩⟩
theorem flat_weight (a b : Int) : (flat a b).weight = 1 := by simp only [flat, GV.weight, GV.weights]; rfl
/-- Turn of two components of which neither has a path, a key or a text. -/
theorem turn_flat (k i j k' i' j' : Nat) (a n a' n' : Int) (left : Bool) (w : World) (hi : i ≤ 4294967296) (hj : j ≤ 4294967296) (hi' : i' ≤ 4294967296) (hj' : j' ≤ 4294967296) :
    Calls Try.prog 10 #[.agg #[.int .u8 k, .slice none 0 0, .string ⟨#[]⟩, .int .i64 i, .int .i64 j, .int .i64 0, .int .u8 a, .int .i64 n, .string ⟨#[]⟩, .slice none 0 0, .slice none 0 0, .string ⟨#[]⟩], .agg #[.int .u8 k', .slice none 0 0, .string ⟨#[]⟩, .int .i64 i', .int .i64 j', .int .i64 0, .int .u8 a', .int .i64 n', .string ⟨#[]⟩, .slice none 0 0, .slice none 0 0, .string ⟨#[]⟩], .bool left] w (TurnOut (turnG ⟨k, i, j, flat a n⟩ ⟨k', i', j', flat a' n'⟩ left) ⟨#[]⟩ ⟨#[]⟩ 0 w) :=
  turn_any k i j (flat a n) ⟨#[]⟩ ⟨#[]⟩ 0 none none 0 0 k' i' j' (flat a' n') ⟨#[]⟩ ⟨#[]⟩ 0 none none none 0 0 0 0 left w (vl_flat w a n) (by rw [flat_weight]; decide) (by decide) (by decide) hi hj hi' hj'
/-- One component comes back. -/
def OneF (c : Cm GV) (w : World) (e : Ending) (w' : World) : Prop :=
  ∃ b AL AO cL cO, e = .returned (.slice (some ⟨b, 0, none⟩) 1 1) ∧ w.heap.size ≤ b ∧ Whole w' b 29 #[.int .u8 c.k, .slice none 0 0, .string ⟨#[]⟩, .int .i64 c.i, .int .i64 c.j, .int .i64 0, .int .u8 c.v.kind, .int .i64 c.v.num, .string c.v.str, .slice AL c.v.items.length cL, .slice AO c.v.vals.length cO, .string ⟨#[]⟩] ∧ Vl w' c.v AL AO cL cO ∧ Below w.heap.size w w'
theorem turn_one {k i j k' i' j' : Nat} {a n a' n' : Int} {left : Bool} {c : Cm GV} (hi : i ≤ 4294967296) (hj : j ≤ 4294967296) (hi' : i' ≤ 4294967296) (hj' : j' ≤ 4294967296) (h : turnG ⟨k, i, j, flat a n⟩ ⟨k', i', j', flat a' n'⟩ left = some c) (w : World) :
    Calls Try.prog 10 #[.agg #[.int .u8 k, .slice none 0 0, .string ⟨#[]⟩, .int .i64 i, .int .i64 j, .int .i64 0, .int .u8 a, .int .i64 n, .string ⟨#[]⟩, .slice none 0 0, .slice none 0 0, .string ⟨#[]⟩], .agg #[.int .u8 k', .slice none 0 0, .string ⟨#[]⟩, .int .i64 i', .int .i64 j', .int .i64 0, .int .u8 a', .int .i64 n', .string ⟨#[]⟩, .slice none 0 0, .slice none 0 0, .string ⟨#[]⟩], .bool left] w (OneF c w) :=
  (turn_flat k i j k' i' j' a n a' n' left w hi hj hi' hj').mono fun e w' ho => by
    rcases ho with ⟨h0, _⟩ | ⟨c', h0, b, AL, AO, cL, cO, he, hb, hw, ⟨hl, hO⟩, hbel⟩
    · rw [h] at h0; cases h0
    · rw [h] at h0; cases h0
      exact ⟨b, AL, AO, cL, cO, he, hb, hw, ⟨hl.keep (From.refl _ _) (fun _ _ _ => trivial), hO.keep (From.refl _ _) (fun _ _ _ => trivial)⟩, hbel⟩
theorem turn_no {k i j k' i' j' : Nat} {a n a' n' : Int} {left : Bool} (hi : i ≤ 4294967296) (hj : j ≤ 4294967296) (hi' : i' ≤ 4294967296) (hj' : j' ≤ 4294967296) (h : turnG ⟨k, i, j, flat a n⟩ ⟨k', i', j', flat a' n'⟩ left = none) (w : World) :
    Calls Try.prog 10 #[.agg #[.int .u8 k, .slice none 0 0, .string ⟨#[]⟩, .int .i64 i, .int .i64 j, .int .i64 0, .int .u8 a, .int .i64 n, .string ⟨#[]⟩, .slice none 0 0, .slice none 0 0, .string ⟨#[]⟩], .agg #[.int .u8 k', .slice none 0 0, .string ⟨#[]⟩, .int .i64 i', .int .i64 j', .int .i64 0, .int .u8 a', .int .i64 n', .string ⟨#[]⟩, .slice none 0 0, .slice none 0 0, .string ⟨#[]⟩], .bool left] w fun e w' => e = .returned (.slice none 0 0) ∧ Below w.heap.size w w' :=
  (turn_flat k i j k' i' j' a n a' n' left w hi hj hi' hj').mono fun e w' ho => by
    rcases ho with ⟨_, he, hb⟩ | ⟨c', h0, _⟩
    · exact ⟨he, hb⟩
    · rw [h] at h0; cases h0
/-- What is known of an answer's one component. -/
theorem OneF.tw {c : Cm GV} {w w' : World} {e : Ending} (h : OneF c w e w') : ∃ b AL AO cL cO, e = .returned (.slice (some ⟨b, 0, none⟩) 1 1) ∧ (w'.cell? ⟨b, 3, none⟩ = some (.int .i64 c.i) ∧ w'.cell? ⟨b, 4, none⟩ = some (.int .i64 c.j)) ∧ (∀ W, Below w'.heap.size w' W → W.cell? ⟨b, 3, none⟩ = some (.int .i64 c.i) ∧ W.cell? ⟨b, 4, none⟩ = some (.int .i64 c.j)) ∧ Vl w' c.v AL AO cL cO ∧ Below w.heap.size w w' := by
  obtain ⟨b, AL, AO, cL, cO, he, hb, hw, hv, hbel⟩ := h
  exact ⟨b, AL, AO, cL, cO, he, ⟨hw.tw.c3, hw.tw.c4⟩, fun W hW => ⟨(hw.below hW hw.lt).tw.c3, (hw.below hW hw.lt).tw.c4⟩, hv, hbel⟩

/-- A list of numbers, at the cells of a block. -/
theorem two_nums (W : World) (a b : Int) : ListIn [numG a, numG b] (some ⟨W.heap.size, 0, none⟩) 2 (W.alloc (.cells #[.int .u8 2, .int .i64 a, .string ⟨#[]⟩, .slice none 0 0, .slice none 0 0, .int .u8 2, .int .i64 b, .string ⟨#[]⟩, .slice none 0 0, .slice none 0 0] 27)) := by
  have h := Whole.new W 27 #[.int .u8 2, .int .i64 a, .string ⟨#[]⟩, .slice none 0 0, .slice none 0 0, .int .u8 2, .int .i64 b, .string ⟨#[]⟩, .slice none 0 0, .slice none 0 0]
  refine .inr ⟨_, _, 2, rfl, Nat.le_refl 2, by decide, ⟨trivial, _, h⟩, ?_⟩
  simp only [GV.els, GV.at_iff]
  exact ⟨⟨_, _, (h.cell 0).trans rfl, (h.cell 1).trans rfl, (h.cell 2).trans rfl, (h.cell 3).trans rfl, (h.cell 4).trans rfl, .inl ⟨rfl, rfl⟩, ⟨rfl, .inl ⟨rfl, rfl⟩⟩⟩, ⟨_, _, (h.cell 5).trans rfl, (h.cell 6).trans rfl, (h.cell 7).trans rfl, (h.cell 8).trans rfl, (h.cell 9).trans rfl, .inl ⟨rfl, rfl⟩, ⟨rfl, .inl ⟨rfl, rfl⟩⟩⟩, trivial⟩
theorem num_at {ok : Nat → Prop} {W : World} {b o : Nat} {l : List GV} (hE : GV.els ok W b 5 o l) (i : Nat) (n : Int) (h : l[i]? = some (numG n)) : W.cell? ⟨b, o + i * 5 + 1, none⟩ = some (.int .i64 n) := by
  obtain ⟨_, _, _, x1, _⟩ := GV.at_iff.1 (GV.els_get hE h)
  exact x1
/-- Do of a component that has no path, key or text. -/
theorem do_flat (A0 : Option Addr) (c0 : Nat) (l : List GV) (k i j : Nat) (a n : Int) (w : World) (hL : ListIn l A0 c0 w) (hok : okC l.length (⟨k, i, j, flat a n⟩ : Cm GV)) (hn : l.length ≤ 1000000) (hw : GV.weights (doL l ⟨k, i, j, flat a n⟩) ≤ 900000000) :
    Calls Try.prog 15 #[.slice A0 l.length c0, .agg #[.int .u8 k, .slice none 0 0, .string ⟨#[]⟩, .int .i64 i, .int .i64 j, .int .i64 0, .int .u8 a, .int .i64 n, .string ⟨#[]⟩, .slice none 0 0, .slice none 0 0, .string ⟨#[]⟩]] w (DoOut (doL l ⟨k, i, j, flat a n⟩) w) :=
  seq_Do A0 c0 l k i j (flat a n) none none none 0 0 0 0 ⟨#[]⟩ ⟨#[]⟩ 0 w hL (vl_flat w a n) hok hn hw

set_option maxRecDepth 100000 in
set_option maxHeartbeats 8000000 in
theorem qknown_true (w : World) : Calls Try.prog 11 #[] w fun e w' => e = .returned (.bool true) ∧ Below w.heap.size w w' := by
  have h1 : ∀ W, Calls Try.prog 10 #[.agg #[.int .u8 7, .slice none 0 0, .string ⟨#[]⟩, .int .i64 0, .int .i64 2, .int .i64 0, .int .u8 0, .int .i64 0, .string ⟨#[]⟩, .slice none 0 0, .slice none 0 0, .string ⟨#[]⟩], .agg #[.int .u8 4, .slice none 0 0, .string ⟨#[]⟩, .int .i64 1, .int .i64 0, .int .i64 0, .int .u8 0, .int .i64 0, .string ⟨#[]⟩, .slice none 0 0, .slice none 0 0, .string ⟨#[]⟩], .bool true] W (OneF ⟨7, 0, 3, flat 0 0⟩ W) := fun W => turn_one (k := 7) (i := 0) (j := 2) (k' := 4) (i' := 1) (j' := 0) (a := 0) (n := 0) (a' := 0) (n' := 0) (left := true) (by decide) (by decide) (by decide) (by decide) (by rfl) W
  have h2 : ∀ W, Calls Try.prog 10 #[.agg #[.int .u8 5, .slice none 0 0, .string ⟨#[]⟩, .int .i64 2, .int .i64 0, .int .i64 0, .int .u8 0, .int .i64 0, .string ⟨#[]⟩, .slice none 0 0, .slice none 0 0, .string ⟨#[]⟩], .agg #[.int .u8 5, .slice none 0 0, .string ⟨#[]⟩, .int .i64 2, .int .i64 0, .int .i64 0, .int .u8 0, .int .i64 0, .string ⟨#[]⟩, .slice none 0 0, .slice none 0 0, .string ⟨#[]⟩], .bool true] W fun e w' => e = .returned (.slice none 0 0) ∧ Below W.heap.size W w' := fun W => turn_no (k := 5) (i := 2) (j := 0) (k' := 5) (i' := 2) (j' := 0) (a := 0) (n := 0) (a' := 0) (n' := 0) (left := true) (by decide) (by decide) (by decide) (by decide) (by rfl) W
  have h3 : ∀ W A c, ListIn [numG 1, numG 2] A c W → Calls Try.prog 15 #[.slice A 2 c, .agg #[.int .u8 7, .slice none 0 0, .string ⟨#[]⟩, .int .i64 0, .int .i64 1, .int .i64 0, .int .u8 0, .int .i64 0, .string ⟨#[]⟩, .slice none 0 0, .slice none 0 0, .string ⟨#[]⟩]] W (DoOut [numG 2, numG 1] W) := fun W A c h => do_flat A c [numG 1, numG 2] 7 0 1 0 0 W h (by simp [okC]) (by decide) (by decide)
  have h4 : ∀ W, Calls Try.prog 18 #[.int .i64 1, .agg #[.int .u8 0, .slice none 0 0, .string ⟨#[]⟩, .int .i64 0, .int .i64 0, .int .i64 0, .int .u8 0, .int .i64 0, .string ⟨#[]⟩, .slice none 0 0, .slice none 0 0, .string ⟨#[]⟩]] W fun e w' => e = .returned (.int .u16 31) ∧ Below W.heap.size W w' := fun W => check_any 1 0 0 0 none none none 0 0 0 0 0 0 ⟨#[]⟩ ⟨#[]⟩ ⟨#[]⟩ 0 0 0 W
  have H1 := Lib.hid h1
  have H2 := Lib.hid h2
  have H3 := Lib.hid h3
  have H4 := Lib.hid h4
  clear h1 h2 h3 h4
  go_enter Try.func11, Try.ntmps11
  go_wp2_with (first
    | (go_at_call 10; ((with_reducible refine (H1.out _).mono ?_); rintro e w1 ho; obtain ⟨b, AL, AO, cL, cO, rfl, ⟨q3, q4⟩, hq, hv, hb⟩ := OneF.tw ho; have HQ := Lib.hid hq; have B1 := Lib.hid hb; clear ho hq hv hb))
    | (go_at_call 10; ((with_reducible refine (H2.out _).mono ?_); rintro e w2 ⟨rfl, hb⟩; have B2 := Lib.hid (B1.out.trans (hb.mono B1.out.size)); obtain ⟨r3, r4⟩ := HQ.out _ hb; have HB2 := Lib.hid hb; clear hb))
    | (go_at_call 15; refine (H3.out _ _ _ (two_nums _ _ _)).mono ?_; rintro e w3 ⟨A, c, rfl, hl, hb⟩; obtain ⟨bb, oo, rfl, hK, hE⟩ : ∃ bb oo, A = some ⟨bb, oo, none⟩ ∧ Kind w3 (fun k => _ ≤ k) bb 27 ∧ GV.els (fun k => _ ≤ k) w3 bb 5 oo [numG 2, numG 1] := (by obtain ⟨A', c', he, _, _, hf⟩ := hl.form; simp only [Value.slice.injEq] at he; obtain ⟨rfl, _, rfl⟩ := he; exact hf (by simp)); have y1 : w3.cell? ⟨bb, oo + 1, none⟩ = some (.int .i64 2) := (by simpa using num_at hE 0 2 rfl); have B3 := Lib.hid (B2.out.trans (((below_alloc _ _).trans (hb.mono (by simp))).mono B2.out.size)); obtain ⟨s3, s4⟩ := HQ.out _ (HB2.out.trans (((below_alloc _ _).trans (hb.mono (by simp))).mono HB2.out.size)); clear hl hb hK hE)
    | (go_at_call 18; refine (H4.out _).mono ?_; rintro e w4 ⟨rfl, hb⟩; have B4 := Lib.hid (B3.out.trans (hb.mono B3.out.size)); clear hb))
  go_ret
  exact ⟨rfl, B4.out⟩
end Go.Proofs.Ytlgggalbngpelaa
