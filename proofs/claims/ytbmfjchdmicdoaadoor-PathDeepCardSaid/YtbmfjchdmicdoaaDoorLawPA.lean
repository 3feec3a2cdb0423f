/- PathApart, the Go function: it comes out true. -/
import Derived.Test.YtbmfjchdmicdoaaDoorApart
import Derived.Deep.RegionWith
import Derived.Deep.DeepCutAuto
import Derived.Deep.CutRange
import Derived.Test.YtbmfjchdmicdoaaDoorPKnown
import Derived.Test.YtbmfjchdmicdoaaDoorHeavyP
namespace Go.Proofs.YtbmfjchdmicdoaaDoor
open Go Go.RowKit

/-- Behind the line that draws its order. -/
def CutA (g : GV) (p : List GStep) (wr : World) (t14 t15 : Value) (W : World) : Prop :=
  Below wr.heap.size wr W ∧ t15 = .int .u16 0 ∧ ∃ (X : Nat) (x y : GV) (BL BO : Option Addr) (dL dO : Nat), t14 = .pointer (some ⟨X, 0, none⟩) ∧ g.put x p = some y ∧ y.weight ≤ 20000 ∧ Bx W X y BL BO dL dO
theorem zero_ahead {wr w1 : World} (hb : Below ((wr.alloc (.cells ZC 29)).drew).heap.size ((wr.alloc (.cells ZC 29)).drew) w1) : Whole w1 wr.heap.size 29 ZC ∧ Below wr.heap.size wr w1 :=
  ⟨Whole.below (W := (wr.alloc (.cells ZC 29)).drew) (Whole.new wr _ _) hb (by simp), (((Below.refl _ wr).alloc (Nat.le_refl _) _).drew).trans (hb.mono (by simp))⟩
theorem zero_mid {wr w1 : World} (hb : Below (wr.alloc (.cells ZC 29)).heap.size (wr.alloc (.cells ZC 29)) w1) : Whole w1 wr.heap.size 29 ZC ∧ Below wr.heap.size wr w1 :=
  ⟨Whole.below (Whole.new wr _ _) hb (by simp), ((Below.refl _ wr).alloc (Nat.le_refl _) _).trans (hb.mono (by simp))⟩
theorem vl_put5 {W : World} {X : Nat} {y : GV} {BL BO : Option Addr} {dL dO lo : Nat} (hL : LstV (fun k => lo ≤ k) W (.slice BL y.items.length dL) y.items) (hO : ObjV (fun k => lo ≤ k) W (.slice BO y.vals.length dO) y.keys y.vals) (hX : X < lo) (hw : Whole W X 29 ZC) :
    Bx (put5 W X (.int .u8 y.kind) (.int .i64 y.num) (.string y.str) (.slice BL y.items.length dL) (.slice BO y.vals.length dO)) X y BL BO dL dO := by
  have hF : From (fun k => lo ≤ k) W (put5 W X (.int .u8 y.kind) (.int .i64 y.num) (.string y.str) (.slice BL y.items.length dL) (.slice BO y.vals.length dO)) := fun k hk _ => put5_block _ _ _ _ _ _ _ _ (by omega)
  exact ⟨whole_put5 hw _ _ _ _ _, hL.keep hF (fun _ _ _ => trivial), hO.keep hF (fun _ _ _ => trivial)⟩
/-- Put, with what lies anew. -/
theorem put_new {W : World} {g x y : GV} {AL AO CL CO : Option Addr} {cL cO eL eO : Nat} {A : Option Addr} {c : Nat} {ps : List GStep} (hv : Vl W g AL AO cL cO) (hx : Vl W x CL CO eL eO) (hp : Wy W A c ps) (hw : g.weight ≤ 400000000) (hwx : x.weight ≤ 400000000) (e : g.put x ps = some y) :
    Calls Tryd.prog 15 #[.agg #[.int .u8 g.kind, .int .i64 g.num, .string g.str, .slice AL g.items.length cL, .slice AO g.vals.length cO], .slice A ps.length c, .agg #[.int .u8 x.kind, .int .i64 x.num, .string x.str, .slice CL x.items.length eL, .slice CO x.vals.length eO]] W fun e w' =>
      ∃ BL BO dL dO, e = .returned (.tuple #[.agg #[.int .u8 y.kind, .int .i64 y.num, .string y.str, .slice BL y.items.length dL, .slice BO y.vals.length dO], .int .u16 0]) ∧ (LstV (fun k => W.heap.size ≤ k) w' (.slice BL y.items.length dL) y.items ∧ ObjV (fun k => W.heap.size ≤ k) w' (.slice BO y.vals.length dO) y.keys y.vals) ∧ Below W.heap.size W w' :=
  (path_Put _ _ _ g x W.heap.size A c ps W hv.val hx.val hp.steps (Nat.le_refl _) hp.le hp.cap hw hwx).mono fun e' w' ⟨hb, hq⟩ => by
    rcases hq with ⟨h1, _⟩ | ⟨h', v', h1, he, L, O, rfl, hL, hO⟩
    · rw [e] at h1; cases h1
    · rw [e] at h1; cases h1
      obtain ⟨BL, dL, rfl⟩ := lst_form hL
      obtain ⟨BO, dO, rfl⟩ := obj_form hO
      exact ⟨BL, BO, dL, dO, he, ⟨hL, hO⟩, hb⟩

set_option maxRecDepth 100000 in
set_option maxHeartbeats 8000000 in
theorem papart_true (hi : Nat) (A0 : Option Addr) (c0 : Nat) (ts0 : List GTok) (A1 : Option Addr) (c1 : Nat) (ts1 : List Int) (A2 : Option Addr) (c2 : Nat) (ts2 : List Int) (A3 : Option Addr) (c3 : Nat) (ts3 : List GTok) (w : World) (hl0 : ts0.length ≤ c0) (hm0 : c0 ≤ maxLen) (hl1 : ts1.length ≤ c1) (hm1 : c1 ≤ maxLen) (hl2 : ts2.length ≤ c2) (hm2 : c2 ≤ maxLen) (hl3 : ts3.length ≤ c3) (hm3 : c3 ≤ maxLen) (hhi : hi ≤ w.heap.size) (hT0 : Toks hi w A0 ts0) (hT1 : Bytes hi w A1 ts1) (hT2 : Bytes hi w A2 ts2) (hT3 : Toks hi w A3 ts3)
    (hr0 : ∀ t ∈ ts0, 0 ≤ t.k ∧ t.k ≤ 255 ∧ 0 ≤ t.m ∧ t.m ≤ 255) (hs0 : ∀ t ∈ ts0, t.s.size ≤ 140737488351232) (hr1 : ∀ x ∈ ts1, 0 ≤ x ∧ x ≤ 255) (hr2 : ∀ x ∈ ts2, 0 ≤ x ∧ x ≤ 255) (hr3 : ∀ t ∈ ts3, 0 ≤ t.k ∧ t.k ≤ 255 ∧ 0 ≤ t.m ∧ t.m ≤ 255) (hs3 : ∀ t ∈ ts3, t.s.size ≤ 140737488351232) (hU : Tabs w) :
    Calls Tryd.prog 8 #[.slice A0 ts0.length c0, .slice A1 ts1.length c1, .slice A2 ts2.length c2, .slice A3 ts3.length c3] w (TrueBelow w) := by
  have hh0 := heavyp_any hi A0 c0 ts0 none 0 [] w hT0 (fun h => absurd rfl h) (Nat.le_trans hl0 hm0) (by decide) hs0 (fun t ht => by simp at ht)
  have hbu0 : ts0.length ≤ 200 → ∀ W, Below w.heap.size w W → Calls Tryd.prog 12 #[.slice A0 ts0.length c0] W (BuildIs W) := fun h W hb => build_is hi A0 c0 ts0 W hl0 hm0 h (Nat.le_trans hhi hb.size) (hT0.keep (hb.mono hhi) (Nat.le_refl _)) hr0 hs0
  have hwk1 : ∀ (W : World) (g : GV) (AL AO : Option Addr) (cL cO : Nat), Below w.heap.size w W → Vl W g AL AO cL cO → g.Sound → g.weight ≤ 6000 → Calls Tryd.prog 13 #[.agg #[.int .u8 g.kind, .int .i64 g.num, .string g.str, .slice AL g.items.length cL, .slice AO g.vals.length cO], .slice A1 ts1.length c1] W (WalkIs g W) := fun W g AL AO cL cO hb hv hg hgw => walk_is hv hg (by omega) hi A1 c1 ts1 (hT1.keep (hb.mono hhi) (Nat.le_refl _)) hr1 (Nat.le_trans hhi hb.size) hl1 hm1
  have hwk2 : ∀ (W : World) (g : GV) (AL AO : Option Addr) (cL cO : Nat), Below w.heap.size w W → Vl W g AL AO cL cO → g.Sound → g.weight ≤ 6000 → Calls Tryd.prog 13 #[.agg #[.int .u8 g.kind, .int .i64 g.num, .string g.str, .slice AL g.items.length cL, .slice AO g.vals.length cO], .slice A2 ts2.length c2] W (WalkIs g W) := fun W g AL AO cL cO hb hv hg hgw => walk_is hv hg (by omega) hi A2 c2 ts2 (hT2.keep (hb.mono hhi) (Nat.le_refl _)) hr2 (Nat.le_trans hhi hb.size) hl2 hm2
  have hh3 := heavyp_any hi A3 c3 ts3 none 0 [] w hT3 (fun h => absurd rfl h) (Nat.le_trans hl3 hm3) (by decide) hs3 (fun t ht => by simp at ht)
  have hbu3 : ts3.length ≤ 200 → ∀ W, Below w.heap.size w W → Calls Tryd.prog 12 #[.slice A3 ts3.length c3] W (BuildIs W) := fun h W hb => build_is hi A3 c3 ts3 W hl3 hm3 h (Nat.le_trans hhi hb.size) (hT3.keep (hb.mono hhi) (Nat.le_refl _)) hr3 hs3
  simp only [List.length_nil] at hh0 hh3
  have HH0 := Lib.hid hh0
  have HBU0 := Lib.hid hbu0
  have HWK1 := Lib.hid hwk1
  have HWK2 := Lib.hid hwk2
  have HH3 := Lib.hid hh3
  have HBU3 := Lib.hid hbu3
  have HK := Lib.hid (fun W (hb : Below w.heap.size w W) => pknown_true W (hU.below hb (Nat.le_refl _)))
  have HU := Lib.hid hU
  clear hU hh0 hbu0 hT0 hr0 hs0 hwk1 hT1 hr1 hwk2 hT2 hr2 hh3 hbu3 hT3 hr3 hs3
  unfold HeavyP at HH0
  have hml0 := Nat.le_trans hl0 hm0
  clear hl0 hm0
  unfold maxLen at hml0
  generalize ts0.length = n0 at *
  have hml1 := Nat.le_trans hl1 hm1
  clear hl1 hm1
  unfold maxLen at hml1
  generalize ts1.length = n1 at *
  have hml2 := Nat.le_trans hl2 hm2
  clear hl2 hm2
  unfold maxLen at hml2
  generalize ts2.length = n2 at *
  unfold HeavyP at HH3
  have hml3 := Nat.le_trans hl3 hm3
  clear hl3 hm3
  unfold maxLen at hml3
  generalize ts3.length = n3 at *
  unfold TrueBelow at HK
  go_enter Tryd.func8, Tryd.ntmps8
  go_wp2_with (first
    | (go_at_call 10; refine HH0.out.mono ?_; rintro e w' ⟨b0, rfl, rfl, hb⟩; have HB0 := Lib.hid hb; clear hb HH0)
    | (go_at_call 10; refine HH3.out.mono ?_; rintro e w' ⟨b3, rfl, rfl, hb⟩; have HB3 := Lib.hid hb; clear hb HH3)
    | (go_at_call 11; refine (HK.out _ (Below.refl _ _)).mono ?_; rintro e w1 ⟨rfl, hb⟩; have W1 := Lib.hid hb; clear hb)
    | (go_at_call 12; refine (HBU0.out (HB0.out (by simpa using ‹¬ b0 = true›)).1 _ W1.out).mono ?_; rintro e w2 ⟨g, gAL, gAO, gcL, gcO, rfl, hv, hgs, hgw, hb⟩; have W2 := Lib.hid (W1.out.trans (hb.mono (by have := W1.out.size; first | omega | (simp; omega)))); have Vg := Lib.hid hv; have Sg := Lib.hid (And.intro hgs hgw); clear hb hv hgs hgw HBU0)
    | (go_at_call 13; refine (HWK1.out _ _ _ _ _ _ (W2.out.alloc W2.out.size _) (Bx.new Vg.out).vl Sg.out.1 Sg.out.2).mono ?_; rintro e w3 ⟨P, Pc, Ps, hp, rfl, hwy, hgp, hlen, hb⟩; have W3 := Lib.hid ((W2.out.alloc W2.out.size _).trans (hb.mono (by have := W2.out.size; first | omega | (simp; omega)))); have Bg3 := Lib.hid ((Bx.new Vg.out).later hb); have Pp3 := Lib.hid hwy; have Cp := Lib.hid (And.intro hgp hlen.2); clear hb hwy W2 hgp hlen HWK1; obtain ⟨fg0, fg1, fg2, fg3, fg4⟩ := Bg3.out.cells)
    | (go_at_call 13; refine (HWK2.out _ _ _ _ _ _ W3.out Bg3.out.vl Sg.out.1 Sg.out.2).mono ?_; rintro e w4 ⟨Q, Qc, Qs, hq, rfl, hwy, hgq, hlen, hb⟩; clear fg0 fg1 fg2 fg3 fg4; have W4 := Lib.hid (W3.out.trans (hb.mono (by have := W3.out.size; first | omega | (simp; omega)))); have Bg4 := Lib.hid (Bg3.out.later hb); have Pp4 := Lib.hid (Pp3.out.later hb); have Pq4 := Lib.hid hwy; have Cq := Lib.hid (And.intro hgq hlen.2); clear hb hwy Bg3 Pp3 W3 hgq hlen HWK2)
    | (go_at_call 19; refine (begins_is Pp4.out Pq4.out).mono ?_; rintro e w5 ⟨rfl, hb⟩; have W5 := Lib.hid (W4.out.trans (hb.mono (by have := W4.out.size; first | omega | (simp; omega)))); have Bg5 := Lib.hid (Bg4.out.later hb); have Pp5 := Lib.hid (Pp4.out.later hb); have Pq5 := Lib.hid (Pq4.out.later hb); clear hb Bg4 Pp4 Pq4 W4)
    | (go_at_call 19; refine (begins_is Pq5.out Pp5.out).mono ?_; rintro e w6 ⟨rfl, hb⟩; have W6 := Lib.hid (W5.out.trans (hb.mono (by have := W5.out.size; first | omega | (simp; omega)))); have Bg6 := Lib.hid (Bg5.out.later hb); have Pp6 := Lib.hid (Pp5.out.later hb); have Pq6 := Lib.hid (Pq5.out.later hb); clear hb Bg5 Pp5 Pq5 W5; obtain ⟨fg0, fg1, fg2, fg3, fg4⟩ := Bg6.out.cells)
    | (go_at_call 14; refine (get_is Bg6.out.vl Pq6.out (by have := Sg.out.2; omega) Cq.out.1).mono ?_; rintro e w7 ⟨aAL, aAO, acL, acO, rfl, hv, hb⟩; clear fg0 fg1 fg2 fg3 fg4; have W7 := Lib.hid (W6.out.trans (hb.mono (by have := W6.out.size; first | omega | (simp; omega)))); have Bg7 := Lib.hid (Bg6.out.later hb); have Pp7 := Lib.hid (Pp6.out.later hb); have Pq7 := Lib.hid (Pq6.out.later hb); have Va := Lib.hid hv; clear hb hv Bg6 Pp6 Pq6 W6))
  any_goals (go_ret; first | exact ⟨rfl, W1.out⟩ | exact ⟨rfl, W5.out⟩ | exact ⟨rfl, W6.out⟩)
  have HA : Hid (Bx (w7.alloc (.cells #[.int .u8 hq.kind, .int .i64 hq.num, .string hq.str, .slice aAL hq.items.length acL, .slice aAO hq.vals.length acO] 29)) w7.heap.size hq aAL aAO acL acO) := Lib.hid (Bx.new Va.out)
  have HB : Hid (Bx (w7.alloc (.cells #[.int .u8 hq.kind, .int .i64 hq.num, .string hq.str, .slice aAL hq.items.length acL, .slice aAO hq.vals.length acO] 29)) w2.heap.size g gAL gAO gcL gcO) := Lib.hid (Bg7.out.later (below_alloc _ _))
  have HPp : Hid (Wy (w7.alloc (.cells #[.int .u8 hq.kind, .int .i64 hq.num, .string hq.str, .slice aAL hq.items.length acL, .slice aAO hq.vals.length acO] 29)) P Pc Ps) := Lib.hid (Pp7.out.later (below_alloc _ _))
  have HPq : Hid (Wy (w7.alloc (.cells #[.int .u8 hq.kind, .int .i64 hq.num, .string hq.str, .slice aAL hq.items.length acL, .slice aAO hq.vals.length acO] 29)) Q Qc Qs) := Lib.hid (Pq7.out.later (below_alloc _ _))
  have WW : Hid (Below w.heap.size w (w7.alloc (.cells #[.int .u8 hq.kind, .int .i64 hq.num, .string hq.str, .slice aAL hq.items.length acL, .slice aAO hq.vals.length acO] 29))) := Lib.hid (W7.out.alloc W7.out.size _)
  obtain ⟨wr, hwr⟩ : ∃ W, W = w7.alloc (.cells #[.int .u8 hq.kind, .int .i64 hq.num, .string hq.str, .slice aAL hq.items.length acL, .slice aAO hq.vals.length acO] 29) := ⟨_, rfl⟩
  rw [← hwr] at HA HB HPp HPq WW ⊢
  clear hwr Va Bg7 Pp7 Pq7 W7
  obtain ⟨g0, g1, g2, g3, g4⟩ := HB.out.cells
  obtain ⟨q0, q1, q2, q3, q4⟩ := HB.out.cellsA
  go_cut [14, 15] (CutA g Ps wr)
  case first =>
    go_region_with (first
      | (go_at_call 12; refine (HBU3.out (HB3.out (by simpa using ‹¬ b3 = true›)).1 wr.drew WW.out.drew).mono ?_; rintro e w8 ⟨x, xAL, xAO, xcL, xcO, rfl, hv, hxs, hxw, hb⟩; obtain ⟨y, hput⟩ := put_some_of (x := x) Cp.out.1; have HB8 : Hid (Below wr.heap.size wr w8) := Lib.hid ((Below.refl _ wr).drew.trans hb); have HG8 := Lib.hid (HB.out.later HB8.out); have HP8 := Lib.hid (HPp.out.later HB8.out); have VX := Lib.hid hv; obtain ⟨h0, h1, h2, h3, h4⟩ := HG8.out.cells; obtain ⟨i0, i1, i2, i3, i4⟩ := HG8.out.cellsA; have HX := Lib.hid (And.intro hput hxw); clear hv hxs hxw hb hput)
      | (go_at_call 12; refine (HBU3.out (HB3.out (by simpa using ‹¬ b3 = true›)).1 _ (WW.out.alloc WW.out.size _).drew).mono ?_; rintro e w8 ⟨x, xAL, xAO, xcL, xcO, rfl, hv, hxs, hxw, hb⟩; obtain ⟨y, hput⟩ := put_some_of (x := x) Cp.out.1; have HZ := Lib.hid (zero_ahead hb); have HB8 : Hid (Below wr.heap.size wr w8) := Lib.hid HZ.out.2; have HG8 := Lib.hid (HB.out.later HB8.out); have HP8 := Lib.hid (HPp.out.later HB8.out); have VX := Lib.hid hv; obtain ⟨h0, h1, h2, h3, h4⟩ := HG8.out.cells; obtain ⟨i0, i1, i2, i3, i4⟩ := HG8.out.cellsA; have HX := Lib.hid (And.intro hput hxw); clear hv hxs hxw hb hput)
      | (go_at_call 15; refine (put_new HG8.out.vl VX.out HP8.out (by have := Sg.out.2; have := HX.out.2; omega) (by have := Sg.out.2; have := HX.out.2; omega) HX.out.1).mono ?_; rintro e w9 ⟨yAL, yAO, ycL, ycO, rfl, hv, hb⟩; have HB9 : Hid (Below wr.heap.size wr w9) := Lib.hid (HB8.out.trans (hb.mono HB8.out.size)); have VY := Lib.hid hv; try (have HZ9 := Lib.hid (HZ.out.1.below hb HZ.out.1.lt); obtain ⟨x0, x1, x2, x3, x4, y0, y1, y2, y3, y4⟩ := HZ9.out.five); clear hv hb)
      | (go_at_call 15; refine (put_new (HG8.out.later (below_alloc _ _)).vl (VX.out.later (below_alloc _ _)) (HP8.out.later (below_alloc _ _)) (by have := Sg.out.2; have := HX.out.2; omega) (by have := Sg.out.2; have := HX.out.2; omega) HX.out.1).mono ?_; rintro e w9 ⟨yAL, yAO, ycL, ycO, rfl, hv, hb⟩; have HM := Lib.hid (zero_mid hb); have HB9 : Hid (Below wr.heap.size wr w9) := Lib.hid (HB8.out.trans (HM.out.2.mono HB8.out.size)); have VY := Lib.hid hv; obtain ⟨x0, x1, x2, x3, x4, y0, y1, y2, y3, y4⟩ := HM.out.1.five; clear hv hb))
    all_goals go_wp2_with fail
    all_goals go_meet
    all_goals first
      | (have hz := HZ9.out; have hz0 := HZ.out.1.lt; exact ⟨put5_below HB9.out (Nat.le_refl _) _ _ _ _ _, rfl, _, x, y, yAL, yAO, ycL, ycO, rfl, HX.out.1, by have := put_weight _ _ _ HX.out.1; have := Sg.out.2; have := HX.out.2; omega, vl_put5 VY.out.1 VY.out.2 hz0 hz⟩)
      | (have hz := HM.out.1; exact ⟨put5_below HB9.out HB8.out.size _ _ _ _ _, rfl, _, x, y, yAL, yAO, ycL, ycO, rfl, HX.out.1, by have := put_weight _ _ _ HX.out.1; have := Sg.out.2; have := HX.out.2; omega, vl_put5 VY.out.1 VY.out.2 (by simp) hz⟩)
      | exact ⟨HB9.out.alloc HB9.out.size _, rfl, _, x, y, yAL, yAO, ycL, ycO, rfl, HX.out.1, by have := put_weight _ _ _ HX.out.1; have := Sg.out.2; have := HX.out.2; omega, Bx.new ⟨VY.out.1.keep (From.refl _ _) (fun _ _ _ => trivial), VY.out.2.keep (From.refl _ _) (fun _ _ _ => trivial)⟩⟩
  case rest =>
    obtain ⟨hbw, rfl, X, x, y, BL, BO, dL, dO, rfl, hput, hyw, hbx⟩ := hcut
    have HA2 := Lib.hid (HA.out.later hbw)
    have HQ2 := Lib.hid (HPq.out.later hbw)
    have WW2 := Lib.hid (WW.out.trans (hbw.mono WW.out.size))
    have HBX := Lib.hid hbx
    have hap := put_apart _ _ _ _ _ Cp.out.2 Cq.out.2 hput Cq.out.1 (by simpa using ‹¬ begins Ps Qs = true›) ‹begins Qs Ps = false›
    have HAP := Lib.hid hap
    obtain ⟨c0, c1, c2, c3, c4⟩ := hbx.cells
    have hqw := Lib.hid (get_weight _ _ _ Cq.out.1)
    clear hbw hbx hap hput g0 g1 g2 g3 g4 q0 q1 q2 q3 q4 HA HB HPp HPq WW
    go_wp2_with (first
      | (go_at_call 14; refine (get_is HBX.out.vl HQ2.out (by omega) HAP.out).mono ?_; rintro e w9 ⟨dAL, dAO, dcL, dcO, rfl, hv, hb⟩; have HA3 := Lib.hid (HA2.out.later hb); have VD := Lib.hid hv; have WW3 := Lib.hid (WW2.out.trans (hb.mono WW2.out.size)); clear c0 c1 c2 c3 c4; obtain ⟨c0, c1, c2, c3, c4⟩ := HA3.out.cellsA; clear hv hb)
      | (go_at_call 16; refine (same_is (HA3.out.later (below_alloc _ _)).vl (Bx.new VD.out).vl (by have := hqw.out; have := Sg.out.2; omega)).mono ?_; rintro e w10 ⟨rfl, hb⟩; have WW4 := Lib.hid ((WW3.out.alloc WW3.out.size _).trans (hb.mono (by have := WW3.out.size; simp; omega))); clear hb))
    go_ret
    exact ⟨rfl, WW4.out⟩
end Go.Proofs.YtbmfjchdmicdoaaDoor
