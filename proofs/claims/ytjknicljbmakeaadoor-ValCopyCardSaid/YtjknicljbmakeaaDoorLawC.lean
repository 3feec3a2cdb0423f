/- ValCopy, the Go function: it comes out true. -/
import Derived.Test.YtjknicljbmakeaaDoorLawF
import Derived.Test.YtjknicljbmakeaaDoorLawS
import Derived.Test.YtjknicljbmakeaaDoorRefC
import Derived.Test.YtjknicljbmakeaaDoorMess
namespace Go.Proofs.YtjknicljbmakeaaDoor
open Go Go.RowKit Go.Sort

/-- Between the rounds of both loops. -/
def SpoilRel (lo hi B : Nat) (W0 W : World) (n : Nat) (i : Value) (wr : World) : Prop := ∃ k : Nat, i = .int .i64 k ∧ k ≤ n ∧ Mess lo hi W wr ∧ Below B W0 wr

set_option maxRecDepth 100000 in
set_option maxHeartbeats 8000000 in
theorem copy_true (hi : Nat) (A : Option Addr) (cap : Nat) (ts : List GTok) (w : World) (hcap : ts.length ≤ cap) (hm : cap ≤ maxLen) (hhi : hi ≤ w.heap.size) (hT : Toks hi w A ts)
    (hr : ∀ t ∈ ts, 0 ≤ t.k ∧ t.k ≤ 255 ∧ 0 ≤ t.m ∧ t.m ≤ 255) (hss : ∀ t ∈ ts, t.s.size ≤ 140737488351232) (hU : Tabs w) :
    Calls Tryd.prog 5 #[.slice A ts.length cap] w (TrueBelow w) := by
  have hheavy := heavy_any hi A cap ts w hT (by omega) (hss)
  have hraw : ts.length ≤ 200 → ∀ W, Below w.heap.size w W → Calls Tryd.prog 18 #[.slice A ts.length cap] W (RawOut ts W) := fun h W hb => Raw_any hi A cap ts W hcap hm h (by have := hb.size; omega) (hT.keep (hb.mono hhi) (Nat.le_refl _)) hr
  have HRAW := Lib.hid hraw
  have HHEAVY := Lib.hid hheavy
  have HU := Lib.hid hU
  clear hraw hheavy hU hT hr hss
  generalize hn : ts.length = n at *
  have HN := Lib.hid hn
  clear hn
  go_enter Tryd.func5, Tryd.ntmps5
  go_wp2_with (first | (go_at_call 16; refine HHEAVY.out.mono ?_; rintro e w' ⟨b, rfl, rfl, hb⟩; have HB := Lib.hid hb; clear hb) | (go_at_call 17; refine (known_true _ HU.out).mono ?_; rintro e W1 ⟨rfl, hb1⟩; have HB1 := Lib.hid hb1; clear hb1) | (go_at_call 18; refine (HRAW.out (by have := (HB.out (by simpa using ‹¬ b = true›)).1; have := HN.out; omega) _ HB1.out).mono ?_; rintro e W2 ⟨g, v, rfl, hv, hw, hb2⟩; obtain ⟨L, O, rfl, hL, hO⟩ := hv; obtain ⟨BL, dL, rfl⟩ := lst_form hL; obtain ⟨BO, dO, rfl⟩ := obj_form hO; have HV := Lib.hid (law_box (And.intro hL hO) (.cells #[.int .u8 g.kind, .int .i64 g.num, .string g.str, .slice BL g.items.length dL, .slice BO g.vals.length dO] 28)); have HB2 := Lib.hid (HB1.out.trans (hb2.mono (HB1.out.size))); have HW := Lib.hid (show g.weight ≤ 1000000000 by have h2 := (HB.out (by simpa using ‹¬ b = true›)).2; omega); clear hL hO hw hb2) | (go_at_call 28; refine (val_Copy (fun k => W1.heap.size ≤ k) _ g _ HV.out HW.out).mono ?_; rintro e W3 ⟨v', rfl, ⟨L', O', rfl, hL', hO'⟩, hb3⟩; obtain ⟨BL', dL', rfl⟩ := lst_form hL'; obtain ⟨BO', dO', rfl⟩ := obj_form hO'; have HV' := Lib.hid (And.intro hL' hO'); have HB3 := Lib.hid hb3; have HQ3 := Lib.hid (box_five hb3); obtain ⟨q0, q1, q2, q3, q4, _⟩ := (box_five hb3).five; replace q0 := fun o => cell_alloc o q0; replace q1 := fun o => cell_alloc o q1; replace q2 := fun o => cell_alloc o q2; replace q3 := fun o => cell_alloc o q3; replace q4 := fun o => cell_alloc o q4; clear hL' hO' hb3) | (go_at_call 19; refine (ref_Copy g.size (fun _ => True) _ g _ (Nat.le_refl _) (GV.val_keep (From.of_below (HB3.out.alloc HB3.out.size _)) (fun _ _ _ => trivial) HV.out) (Nat.le_trans (size_le_weight g) HW.out)).mono ?_; rintro e W4 ⟨v2, rfl, ⟨L2, O2, rfl, hL2, hO2⟩, hb4⟩; obtain ⟨CL, eL, rfl⟩ := lst_form hL2; obtain ⟨CO, eO, rfl⟩ := obj_form hO2; have HV2 := Lib.hid (And.intro hL2 hO2); have HB4 := Lib.hid hb4; have HQ4 := Lib.hid (box_five hb4); have HQ3' := Lib.hid ((HQ3.out.alloc (.cells #[.int .u8 g.kind, .int .i64 g.num, .string g.str, .slice BL' g.items.length dL', .slice BO' g.vals.length dO'] 28)).below hb4 (by have := HQ3.out.lt; simp; omega)); obtain ⟨r0, r1, r2, r3, r4, _⟩ := (box_five hb4).five; obtain ⟨p0, p1, p2, p3, p4, _⟩ := HQ3'.out.five; replace r0 := fun o => cell_alloc o r0; replace r1 := fun o => cell_alloc o r1; replace r2 := fun o => cell_alloc o r2; replace r3 := fun o => cell_alloc o r3; replace r4 := fun o => cell_alloc o r4; replace p0 := fun o => cell_alloc o p0; replace p1 := fun o => cell_alloc o p1; replace p2 := fun o => cell_alloc o p2; replace p3 := fun o => cell_alloc o p3; replace p4 := fun o => cell_alloc o p4; clear hL2 hO2 hb4 q0 q1 q2 q3 q4) | (go_at_call 26; refine (ref_Same g.size (fun _ => True) _ _ g g _ (Nat.le_refl _) (GV.val_keep (From.of_below ((HB4.out.alloc HB4.out.size _).mono (by simp))) (fun _ _ _ => trivial) (GV.val_keep (ok' := fun _ => True) (From.of_below (HB3.out.alloc HB3.out.size (.cells #[.int .u8 g.kind, .int .i64 g.num, .string g.str, .slice BL' g.items.length dL', .slice BO' g.vals.length dO'] 28))) (fun _ _ _ => trivial) HV.out)) (GV.val_keep (From.of_below (HB4.out.alloc HB4.out.size _)) (fun _ _ _ => trivial) (law_box HV'.out (.cells #[.int .u8 g.kind, .int .i64 g.num, .string g.str, .slice BL' g.items.length dL', .slice BO' g.vals.length dO'] 28))) (Nat.le_trans (size_le_weight g) HW.out) (Nat.le_trans (size_le_weight g) HW.out)).mono ?_; rintro e W5 ⟨bb, rfl, hbb, hb5⟩; obtain rfl : bb = true := hbb.2 (same_refl g); have HB5 := Lib.hid hb5; clear hbb hb5 p0 p1 p2 p3 p4 r0 r1 r2 r3 r4))
  · refine bodyPost_ret (v := .bool true) (by simp [results, Tryd.results5, go_sem]) rfl ?_
    exact ⟨rfl, HB1.out⟩
  have s2 : w.heap.size ≤ W2.heap.size := HB2.out.size
  have s3 : W2.heap.size + 1 ≤ W3.heap.size := by have := HB3.out.size; simpa using this
  have s4 : W3.heap.size + 1 ≤ W4.heap.size := by have := HB4.out.size; simpa using this
  have s5 : W4.heap.size + 1 ≤ W5.heap.size := by have := HB5.out.size; simpa using this
  have d3 : Below (W2.heap.size + 1) (W2.alloc (.cells #[.int .u8 g.kind, .int .i64 g.num, .string g.str, .slice BL g.items.length dL, .slice BO g.vals.length dO] 28)) W3 := by have := HB3.out; simpa using this
  have d35 : Below W3.heap.size W3 W5 := (((Below.refl _ W3).alloc (Nat.le_refl _) (.cells #[.int .u8 g.kind, .int .i64 g.num, .string g.str, .slice BL' g.items.length dL', .slice BO' g.vals.length dO'] 28)).trans (HB4.out.mono (by simp))).trans (((Below.refl _ W4).alloc (Nat.le_refl _) (.cells #[.int .u8 g.kind, .int .i64 g.num, .string g.str, .slice CL g.items.length eL, .slice CO g.vals.length eO] 28)).mono (by omega) |>.trans (HB5.out.mono (by simp; omega)))
  have d45 : Below W4.heap.size W4 W5 := ((Below.refl _ W4).alloc (Nat.le_refl _) (.cells #[.int .u8 g.kind, .int .i64 g.num, .string g.str, .slice CL g.items.length eL, .slice CO g.vals.length eO] 28)).trans (HB5.out.mono (by simp))
  have dW : Below w.heap.size w W5 := ((HB2.out.alloc s2 _).trans (d3.mono (by omega))).trans (d35.mono (by omega))
  have t3 := HQ3.out.below d35 HQ3.out.lt
  have t4 := HQ4.out.below d45 HQ4.out.lt
  have t5 : Whole W5 W4.heap.size 28 #[.int .u8 g.kind, .int .i64 g.num, .string g.str, .slice CL g.items.length eL, .slice CO g.vals.length eO] := box_five HB5.out
  have v1 : g.val (fun k => k < W2.heap.size + 1) W5 (.agg #[.int .u8 g.kind, .int .i64 g.num, .string g.str, .slice BL g.items.length dL, .slice BO g.vals.length dO]) :=
    GV.val_keep (ok := fun k => k < W2.heap.size + 1) (From.of_below d35) (fun _ h _ => h) (GV.val_keep (ok := fun k => k < W2.heap.size + 1) (W := W2.alloc (.cells #[.int .u8 g.kind, .int .i64 g.num, .string g.str, .slice BL g.items.length dL, .slice BO g.vals.length dO] 28)) (fun k hk _ => d3.block k hk) (fun _ h _ => h)
      (GV.val_keep (From.refl _ _) (fun k _ hk => by simpa using hk) HV.out))
  have v2 : g.val (fun k => W3.heap.size ≤ k) W5 (.agg #[.int .u8 g.kind, .int .i64 g.num, .string g.str, .slice CL g.items.length eL, .slice CO g.vals.length eO]) :=
    ⟨_, _, rfl, HV2.out.1.keep (From.of_below d45) (fun k hk _ => by simp at hk; omega), HV2.out.2.keep (From.of_below d45) (fun k hk _ => by simp at hk; omega)⟩
  obtain ⟨_, _, hBL, hl1, hl2, hlf⟩ := HV'.out.1.form
  obtain ⟨_, _, hBO, ho1, ho2, hof⟩ := HV'.out.2.form
  cases hBL
  cases hBO
  have hlc : ∀ k, k < g.items.length → ∃ b o, BL' = some ⟨b, o, none⟩ ∧ W2.heap.size + 1 ≤ b ∧ b < W3.heap.size ∧ ∀ wr, Mess (W2.heap.size + 1) W3.heap.size W5 wr → ∀ j, j < 5 → (∃ u, wr.cell? ⟨b, o + k * 5 + j, none⟩ = some u) ∧ wr.frozen? ⟨b, o + k * 5 + j, none⟩ = false := fun k hk => by
    obtain ⟨b, o, rfl, hK, hE⟩ := hlf (by intro e; rw [e] at hk; simp at hk)
    refine ⟨b, o, rfl, by have := hK.1; simpa using this, hK.lt, fun wr hM j hj => ?_⟩
    have hE5 := GV.els_keep (ok' := fun _ => True) (From.of_below d35) (fun _ _ _ => trivial) g.items (d35.block b hK.lt) hE
    have hK5 := hK.keep (W' := W5) (ok' := fun _ => True) (d35.block b hK.lt) (fun _ _ _ => trivial)
    obtain ⟨L, O, h0, h1, h2, h3, h4, _, _⟩ := GV.at_iff.1 (GV.els_get hE5 (List.getElem?_eq_getElem hk))
    match j, hj with
    | 0, _ => exact hM.cell hK5 h0
    | 1, _ => exact hM.cell hK5 h1
    | 2, _ => exact hM.cell hK5 h2
    | 3, _ => exact hM.cell hK5 h3
    | 4, _ => exact hM.cell hK5 h4
  have hoc : ∀ k, k < g.vals.length → ∃ b o, BO' = some ⟨b, o, none⟩ ∧ W2.heap.size + 1 ≤ b ∧ b < W3.heap.size ∧ ∀ wr, Mess (W2.heap.size + 1) W3.heap.size W5 wr → ∀ j, j < 5 → (∃ u, wr.cell? ⟨b, o + k * 6 + 1 + j, none⟩ = some u) ∧ wr.frozen? ⟨b, o + k * 6 + 1 + j, none⟩ = false := fun k hk => by
    obtain ⟨b, o, rfl, hK, _, hE⟩ := hof (by intro e; rw [e] at hk; simp at hk)
    refine ⟨b, o, rfl, by have := hK.1; simpa using this, hK.lt, fun wr hM j hj => ?_⟩
    have hE5 := GV.els_keep (ok' := fun _ => True) (From.of_below d35) (fun _ _ _ => trivial) g.vals (d35.block b hK.lt) hE
    have hK5 := hK.keep (W' := W5) (ok' := fun _ => True) (d35.block b hK.lt) (fun _ _ _ => trivial)
    obtain ⟨L, O, h0, h1, h2, h3, h4, _, _⟩ := GV.at_iff.1 (GV.els_get hE5 (List.getElem?_eq_getElem hk))
    rw [show o + 1 + k * 6 = o + k * 6 + 1 by omega] at h0 h1 h2 h3 h4
    match j, hj with
    | 0, _ => exact hM.cell hK5 h0
    | 1, _ => exact hM.cell hK5 h1
    | 2, _ => exact hM.cell hK5 h2
    | 3, _ => exact hM.cell hK5 h3
    | 4, _ => exact hM.cell hK5 h4
  unfold maxLen at hl2 ho2
  have hn1 : g.items.length ≤ 1000000000 := by have h1 := len_sizes g.items; have h2 := size_eq g; have h3 := size_le_weight g; have := HW.out; omega
  have hn2 : g.vals.length ≤ 1000000000 := by have h1 := len_sizes g.vals; have h2 := size_eq g; have h3 := size_le_weight g; have := HW.out; omega
  have HLC := Lib.hid hlc
  have HOC := Lib.hid hoc
  have HT := Lib.hid (And.intro t3 (And.intro t4 t5))
  have HVV := Lib.hid (And.intro v1 v2)
  have HDW := Lib.hid dW
  have HS := Lib.hid (And.intro s2 (And.intro s3 (And.intro s4 s5)))
  clear hlc hoc t3 t4 t5 v1 v2 dW d3 d35 d45 hlf hof HB1 HB2 HB3 HB4 HB5 HQ3 HQ4 HQ3' HV HV' HV2 s2 s3 s4 s5
  go_loopw [7] (SpoilRel (W2.heap.size + 1) W3.heap.size w.heap.size w W5 g.items.length) (fun i _ => g.items.length - (intOf i).toNat)
  case atStart => exact ⟨0, rfl, Nat.zero_le _, Mess.refl _ _ _, HDW.out⟩
  case round =>
    obtain ⟨k, rfl, hk, hM, hB⟩ := hrel
    have x3 := (hM.whole HT.out.2.1 (.inr (Nat.le_refl _))).five.c3
    by_cases hlt : k < g.items.length
    · obtain ⟨b, o, rfl, hb1, hb2, hc⟩ := HLC.out k hlt
      obtain ⟨⟨u0, c0⟩, f0⟩ := hc wr hM 0 (by omega)
      obtain ⟨⟨u1, c1⟩, f1⟩ := hc wr hM 1 (by omega)
      obtain ⟨⟨u2, c2⟩, f2⟩ := hc wr hM 2 (by omega)
      obtain ⟨⟨u3, c3⟩, f3⟩ := hc wr hM 3 (by omega)
      obtain ⟨⟨u4, c4⟩, f4⟩ := hc wr hM 4 (by omega)
      simp only [Nat.add_zero] at c0 f0
      have HM := Lib.hid (And.intro hM hB)
      have HBB := Lib.hid (And.intro hb1 hb2)
      clear hc hM hB hb1 hb2
      go_wp2
      go_roundw
      case rel => exact ⟨k + 1, by go_num, by omega, ((((HM.out.1.set HBB.out.1 HBB.out.2 _).set HBB.out.1 HBB.out.2 _).set HBB.out.1 HBB.out.2 _).set HBB.out.1 HBB.out.2 _).set HBB.out.1 HBB.out.2 _,
        ((((HM.out.2.setCell (by have := HBB.out; have := HS.out; simp only; omega) _).setCell (by have := HBB.out; have := HS.out; simp only; omega) _).setCell (by have := HBB.out; have := HS.out; simp only; omega) _).setCell (by have := HBB.out; have := HS.out; simp only; omega) _).setCell (by have := HBB.out; have := HS.out; simp only; omega) _⟩
      case measure => simp [intOf]; omega
    · have HM := Lib.hid (And.intro hM hB)
      clear hM hB
      go_wp2
      clear x3
      go_loopw [8] (SpoilRel (W2.heap.size + 1) W3.heap.size w.heap.size w W5 g.vals.length) (fun i _ => g.vals.length - (intOf i).toNat)
      case atStart => exact ⟨0, rfl, Nat.zero_le _, HM.out.1, HM.out.2⟩
      case round =>
        clear HM
        obtain ⟨k, rfl, hk, hM, hB⟩ := hrel
        have x4 := (hM.whole HT.out.2.1 (.inr (Nat.le_refl _))).five.c4
        by_cases hlt : k < g.vals.length
        · obtain ⟨b, o, rfl, hb1, hb2, hc⟩ := HOC.out k hlt
          obtain ⟨⟨u0, c0⟩, f0⟩ := hc wr hM 0 (by omega)
          obtain ⟨⟨u1, c1⟩, f1⟩ := hc wr hM 1 (by omega)
          obtain ⟨⟨u2, c2⟩, f2⟩ := hc wr hM 2 (by omega)
          obtain ⟨⟨u3, c3⟩, f3⟩ := hc wr hM 3 (by omega)
          obtain ⟨⟨u4, c4⟩, f4⟩ := hc wr hM 4 (by omega)
          simp only [Nat.add_zero] at c0 f0
          have HM := Lib.hid (And.intro hM hB)
          have HBB := Lib.hid (And.intro hb1 hb2)
          clear hc hM hB hb1 hb2
          go_wp2
          go_roundw
          case rel => exact ⟨k + 1, by go_num, by omega, ((((HM.out.1.set HBB.out.1 HBB.out.2 _).set HBB.out.1 HBB.out.2 _).set HBB.out.1 HBB.out.2 _).set HBB.out.1 HBB.out.2 _).set HBB.out.1 HBB.out.2 _,
            ((((HM.out.2.setCell (by have := HBB.out; have := HS.out; simp only; omega) _).setCell (by have := HBB.out; have := HS.out; simp only; omega) _).setCell (by have := HBB.out; have := HS.out; simp only; omega) _).setCell (by have := HBB.out; have := HS.out; simp only; omega) _).setCell (by have := HBB.out; have := HS.out; simp only; omega) _⟩
          case measure => simp [intOf]; omega
        · obtain ⟨y0, y1, y2, y3, y4, _⟩ := (hM.whole HT.out.1 (.inl (by omega))).five
          obtain ⟨z0, z1, z2, z3, z4, _⟩ := (hM.whole HT.out.2.2 (.inr (by have := HS.out; omega))).five
          have w1 := GV.val_keep (ok' := fun _ => True) (hM.from (ok := fun k => k < W2.heap.size + 1) (fun k hk => .inl hk)) (fun _ _ _ => trivial) HVV.out.1
          have w2 := GV.val_keep (ok' := fun _ => True) (hM.from (ok := fun k => W3.heap.size ≤ k) (fun k hk => .inr hk)) (fun _ _ _ => trivial) HVV.out.2
          have HC := Lib.hid (ref_Same g.size _ _ _ g g wr (Nat.le_refl _) w1 w2 (Nat.le_trans (size_le_weight g) HW.out) (Nat.le_trans (size_le_weight g) HW.out))
          have HM := Lib.hid hB
          clear w1 w2 hM hB
          go_wp2_with (go_at_call 26; refine HC.out.mono ?_; rintro e W6 ⟨bb, rfl, hbb, hb6⟩; obtain rfl : bb = true := hbb.2 (same_refl g); have HB6 := Lib.hid hb6; clear hbb hb6)
          refine bodyPost_ret (v := .bool true) (by simp [results, Tryd.results5, go_sem]) rfl ?_
          exact ⟨rfl, HM.out.trans (HB6.out.mono HM.out.size)⟩
end Go.Proofs.YtjknicljbmakeaaDoor
