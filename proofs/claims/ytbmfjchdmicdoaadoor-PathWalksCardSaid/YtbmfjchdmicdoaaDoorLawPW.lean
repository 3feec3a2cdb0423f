/- PathWalks, the Go function: it comes out true. -/
import Derived.Test.YtbmfjchdmicdoaaDoorPTools2
import Derived.Test.YtbmfjchdmicdoaaDoorPKnown
import Derived.Test.YtbmfjchdmicdoaaDoorHeavyP
namespace Go.Proofs.YtbmfjchdmicdoaaDoor
open Go Go.RowKit

set_option maxRecDepth 100000 in
set_option maxHeartbeats 8000000 in
theorem pwalks_true (hi : Nat) (A0 : Option Addr) (c0 : Nat) (ts0 : List GTok) (A1 : Option Addr) (c1 : Nat) (ts1 : List Int) (A2 : Option Addr) (c2 : Nat) (ts2 : List GTok) (w : World) (hl0 : ts0.length ≤ c0) (hm0 : c0 ≤ maxLen) (hl1 : ts1.length ≤ c1) (hm1 : c1 ≤ maxLen) (hl2 : ts2.length ≤ c2) (hm2 : c2 ≤ maxLen) (hhi : hi ≤ w.heap.size) (hT0 : Toks hi w A0 ts0) (hT1 : Bytes hi w A1 ts1) (hT2 : Toks hi w A2 ts2)
    (hr0 : ∀ t ∈ ts0, 0 ≤ t.k ∧ t.k ≤ 255 ∧ 0 ≤ t.m ∧ t.m ≤ 255) (hs0 : ∀ t ∈ ts0, t.s.size ≤ 140737488351232) (hr1 : ∀ x ∈ ts1, 0 ≤ x ∧ x ≤ 255) (hr2 : ∀ t ∈ ts2, 0 ≤ t.k ∧ t.k ≤ 255 ∧ 0 ≤ t.m ∧ t.m ≤ 255) (hs2 : ∀ t ∈ ts2, t.s.size ≤ 140737488351232) (hU : Tabs w) :
    Calls Tryd.prog 6 #[.slice A0 ts0.length c0, .slice A1 ts1.length c1, .slice A2 ts2.length c2] w (TrueBelow w) := by
  have hh0 := heavyp_any hi A0 c0 ts0 none 0 [] w hT0 (fun h => absurd rfl h) (Nat.le_trans hl0 hm0) (by decide) hs0 (fun t ht => by simp at ht)
  have hbu0 : ts0.length ≤ 200 → ∀ W, Below w.heap.size w W → Calls Tryd.prog 12 #[.slice A0 ts0.length c0] W (BuildIs W) := fun h W hb => build_is hi A0 c0 ts0 W hl0 hm0 h (Nat.le_trans hhi hb.size) (hT0.keep (hb.mono hhi) (Nat.le_refl _)) hr0 hs0
  have hwk1 : ∀ (W : World) (g : GV) (AL AO : Option Addr) (cL cO : Nat), Below w.heap.size w W → Vl W g AL AO cL cO → g.Sound → g.weight ≤ 6000 → Calls Tryd.prog 13 #[.agg #[.int .u8 g.kind, .int .i64 g.num, .string g.str, .slice AL g.items.length cL, .slice AO g.vals.length cO], .slice A1 ts1.length c1] W (WalkIs g W) := fun W g AL AO cL cO hb hv hg hgw => walk_is hv hg (by omega) hi A1 c1 ts1 (hT1.keep (hb.mono hhi) (Nat.le_refl _)) hr1 (Nat.le_trans hhi hb.size) hl1 hm1
  have hh2 := heavyp_any hi A2 c2 ts2 none 0 [] w hT2 (fun h => absurd rfl h) (Nat.le_trans hl2 hm2) (by decide) hs2 (fun t ht => by simp at ht)
  have hbu2 : ts2.length ≤ 200 → ∀ W, Below w.heap.size w W → Calls Tryd.prog 12 #[.slice A2 ts2.length c2] W (BuildIs W) := fun h W hb => build_is hi A2 c2 ts2 W hl2 hm2 h (Nat.le_trans hhi hb.size) (hT2.keep (hb.mono hhi) (Nat.le_refl _)) hr2 hs2
  simp only [List.length_nil] at hh0 hh2
  have HH0 := Lib.hid hh0
  have HBU0 := Lib.hid hbu0
  have HWK1 := Lib.hid hwk1
  have HH2 := Lib.hid hh2
  have HBU2 := Lib.hid hbu2
  have HK := Lib.hid (fun W (hb : Below w.heap.size w W) => pknown_true W (hU.below hb (Nat.le_refl _)))
  have HU := Lib.hid hU
  clear hU hh0 hbu0 hT0 hr0 hs0 hwk1 hT1 hr1 hh2 hbu2 hT2 hr2 hs2
  unfold HeavyP at HH0
  have hml0 := Nat.le_trans hl0 hm0
  clear hl0 hm0
  unfold maxLen at hml0
  generalize ts0.length = n0 at *
  have hml1 := Nat.le_trans hl1 hm1
  clear hl1 hm1
  unfold maxLen at hml1
  generalize ts1.length = n1 at *
  unfold HeavyP at HH2
  have hml2 := Nat.le_trans hl2 hm2
  clear hl2 hm2
  unfold maxLen at hml2
  generalize ts2.length = n2 at *
  unfold TrueBelow at HK
  go_enter Tryd.func6, Tryd.ntmps6
  go_wp2_with (first
    | (go_at_call 10; refine HH0.out.mono ?_; rintro e w' ⟨b0, rfl, rfl, hb⟩; have HB0 := Lib.hid hb; clear hb HH0)
    | (go_at_call 10; refine HH2.out.mono ?_; rintro e w' ⟨b2, rfl, rfl, hb⟩; have HB2 := Lib.hid hb; clear hb HH2)
    | (go_at_call 11; refine (HK.out _ (Below.refl _ _)).mono ?_; rintro e w1 ⟨rfl, hb⟩; have W1 := Lib.hid hb; clear hb)
    | (go_at_call 12; refine (HBU0.out (HB0.out (by simpa using ‹¬ b0 = true›)).1 _ W1.out).mono ?_; rintro e w2 ⟨g, gAL, gAO, gcL, gcO, rfl, hv, hgs, hgw, hb⟩; have W2 := Lib.hid (W1.out.trans (hb.mono (by have := W1.out.size; first | omega | (simp; omega)))); have Vg := Lib.hid hv; have Sg := Lib.hid (And.intro hgs hgw); clear hb hv hgs hgw HBU0)
    | (go_at_call 12; refine (HBU2.out (HB2.out (by simpa using ‹¬ b2 = true›)).1 _ (W2.out.alloc W2.out.size _)).mono ?_; rintro e w3 ⟨x, xAL, xAO, xcL, xcO, rfl, hv, hgs, hgw, hb⟩; have W3 := Lib.hid ((W2.out.alloc W2.out.size _).trans (hb.mono (by have := W2.out.size; first | omega | (simp; omega)))); have Bg3 := Lib.hid ((Bx.new Vg.out).later hb); have Vx := Lib.hid hv; have Sx := Lib.hid (And.intro hgs hgw); clear hb hv W2 hgs hgw HBU2; obtain ⟨fg0, fg1, fg2, fg3, fg4⟩ := Bg3.out.cellsA)
    | (go_at_call 13; refine (HWK1.out _ _ _ _ _ _ (W3.out.alloc W3.out.size _) (Bg3.out.later (below_alloc _ _)).vl Sg.out.1 Sg.out.2).mono ?_; rintro e w4 ⟨P, pc, ps, h, rfl, hwy, hget, hlen, hb⟩; clear fg0 fg1 fg2 fg3 fg4; have W4 := Lib.hid ((W3.out.alloc W3.out.size _).trans (hb.mono (by have := W3.out.size; first | omega | (simp; omega)))); have Bg4 := Lib.hid ((Bg3.out.later (below_alloc _ _)).later hb); have Bx4 := Lib.hid ((Bx.new Vx.out).later hb); have Pp4 := Lib.hid hwy; obtain ⟨y, hput⟩ := put_some_of (x := x) hget; have HP := Lib.hid (And.intro hget (And.intro hput (And.intro (get_weight _ _ _ hget) (put_weight _ _ _ hput)))); clear hb hwy Bg3 W3 hget hput hlen HWK1; obtain ⟨fg0, fg1, fg2, fg3, fg4⟩ := Bg4.out.cells)
    | (go_at_call 14; refine (get_is Bg4.out.vl Pp4.out (by have := HP.out.2.2; have := Sg.out.2; have := Sx.out.2; omega) HP.out.1).mono ?_; rintro e w5 ⟨aAL, aAO, acL, acO, rfl, hv, hb⟩; clear fg0 fg1 fg2 fg3 fg4; have W5 := Lib.hid (W4.out.trans (hb.mono (by have := W4.out.size; first | omega | (simp; omega)))); have Bg5 := Lib.hid (Bg4.out.later hb); have Bx5 := Lib.hid (Bx4.out.later hb); have Pp5 := Lib.hid (Pp4.out.later hb); have Va := Lib.hid hv; clear hb hv Bg4 Bx4 Pp4 W4; obtain ⟨fg0, fg1, fg2, fg3, fg4⟩ := Bg5.out.cellsA)
    | (go_at_call 23; refine (rget_is (Bg5.out.later (below_alloc _ _)).vl (Pp5.out.later (below_alloc _ _)) (by have := HP.out.2.2; have := Sg.out.2; have := Sx.out.2; omega) HP.out.1).mono ?_; rintro e w6 ⟨bAL, bAO, bcL, bcO, rfl, hv, hb⟩; clear fg0 fg1 fg2 fg3 fg4; have W6 := Lib.hid ((W5.out.alloc W5.out.size _).trans (hb.mono (by have := W5.out.size; first | omega | (simp; omega)))); have Bg6 := Lib.hid ((Bg5.out.later (below_alloc _ _)).later hb); have Bx6 := Lib.hid ((Bx5.out.later (below_alloc _ _)).later hb); have Ba6 := Lib.hid ((Bx.new Va.out).later hb); have Pp6 := Lib.hid ((Pp5.out.later (below_alloc _ _)).later hb); have Vb := Lib.hid hv; clear hb hv Bg5 Bx5 Pp5 W5; obtain ⟨fg0, fg1, fg2, fg3, fg4⟩ := Bg6.out.cellsA; obtain ⟨fx0, fx1, fx2, fx3, fx4⟩ := Bx6.out.cellsA)
    | (go_at_call 15; refine (put_is (Bg6.out.later (below_alloc _ _)).vl (Bx6.out.later (below_alloc _ _)).vl (Pp6.out.later (below_alloc _ _)) (by have := HP.out.2.2; have := Sg.out.2; have := Sx.out.2; omega) (by have := HP.out.2.2; have := Sg.out.2; have := Sx.out.2; omega) HP.out.2.1).mono ?_; rintro e w7 ⟨cAL, cAO, ccL, ccO, rfl, hv, hb⟩; clear fg0 fg1 fg2 fg3 fg4 fx0 fx1 fx2 fx3 fx4; have W7 := Lib.hid ((W6.out.alloc W6.out.size _).trans (hb.mono (by have := W6.out.size; first | omega | (simp; omega)))); have Bg7 := Lib.hid ((Bg6.out.later (below_alloc _ _)).later hb); have Bx7 := Lib.hid ((Bx6.out.later (below_alloc _ _)).later hb); have Ba7 := Lib.hid ((Ba6.out.later (below_alloc _ _)).later hb); have Bb7 := Lib.hid ((Bx.new Vb.out).later hb); have Pp7 := Lib.hid ((Pp6.out.later (below_alloc _ _)).later hb); have Vc := Lib.hid hv; clear hb hv Bg6 Bx6 Ba6 Pp6 W6; obtain ⟨fg0, fg1, fg2, fg3, fg4⟩ := Bg7.out.cellsA; obtain ⟨fx0, fx1, fx2, fx3, fx4⟩ := Bx7.out.cellsA)
    | (go_at_call 24; refine (rput_is (Bg7.out.later (below_alloc _ _)).vl (Bx7.out.later (below_alloc _ _)).vl (Pp7.out.later (below_alloc _ _)) (by have := HP.out.2.2; have := Sg.out.2; have := Sx.out.2; omega) (by have := HP.out.2.2; have := Sg.out.2; have := Sx.out.2; omega) HP.out.2.1).mono ?_; rintro e w8 ⟨dAL, dAO, dcL, dcO, rfl, hv, hb⟩; clear fg0 fg1 fg2 fg3 fg4 fx0 fx1 fx2 fx3 fx4; have W8 := Lib.hid ((W7.out.alloc W7.out.size _).trans (hb.mono (by have := W7.out.size; first | omega | (simp; omega)))); have Bg8 := Lib.hid ((Bg7.out.later (below_alloc _ _)).later hb); have Bx8 := Lib.hid ((Bx7.out.later (below_alloc _ _)).later hb); have Ba8 := Lib.hid ((Ba7.out.later (below_alloc _ _)).later hb); have Bb8 := Lib.hid ((Bb7.out.later (below_alloc _ _)).later hb); have Bc8 := Lib.hid ((Bx.new Vc.out).later hb); have Pp8 := Lib.hid ((Pp7.out.later (below_alloc _ _)).later hb); have Vd := Lib.hid hv; clear hb hv Bg7 Bx7 Ba7 Bb7 Pp7 W7; obtain ⟨fa0, fa1, fa2, fa3, fa4⟩ := Ba8.out.cellsA; obtain ⟨fb0, fb1, fb2, fb3, fb4⟩ := Bb8.out.cellsA)
    | (go_at_call 16; refine (same_is (Ba8.out.later (below_alloc _ _)).vl (Bb8.out.later (below_alloc _ _)).vl (by have := HP.out.2.2; have := Sg.out.2; have := Sx.out.2; omega)).mono ?_; rintro e w9 ⟨rfl, hb⟩; clear fa0 fa1 fa2 fa3 fa4 fb0 fb1 fb2 fb3 fb4; have W9 := Lib.hid ((W8.out.alloc W8.out.size _).trans (hb.mono (by have := W8.out.size; first | omega | (simp; omega)))); have Bg9 := Lib.hid ((Bg8.out.later (below_alloc _ _)).later hb); have Bx9 := Lib.hid ((Bx8.out.later (below_alloc _ _)).later hb); have Ba9 := Lib.hid ((Ba8.out.later (below_alloc _ _)).later hb); have Bb9 := Lib.hid ((Bb8.out.later (below_alloc _ _)).later hb); have Bc9 := Lib.hid ((Bc8.out.later (below_alloc _ _)).later hb); have Bd9 := Lib.hid ((Bx.new Vd.out).later hb); have Pp9 := Lib.hid ((Pp8.out.later (below_alloc _ _)).later hb); clear hb Bg8 Bx8 Ba8 Bb8 Bc8 Pp8 W8; obtain ⟨fc0, fc1, fc2, fc3, fc4⟩ := Bc9.out.cells; obtain ⟨fd0, fd1, fd2, fd3, fd4⟩ := Bd9.out.cells)
    | (go_at_call 16; refine (same_is Bc9.out.vl Bd9.out.vl (by have := HP.out.2.2; have := Sg.out.2; have := Sx.out.2; omega)).mono ?_; rintro e w10 ⟨rfl, hb⟩; clear fc0 fc1 fc2 fc3 fc4 fd0 fd1 fd2 fd3 fd4; have W10 := Lib.hid (W9.out.trans (hb.mono (by have := W9.out.size; first | omega | (simp; omega)))); have Bg10 := Lib.hid (Bg9.out.later hb); have Bx10 := Lib.hid (Bx9.out.later hb); have Ba10 := Lib.hid (Ba9.out.later hb); have Bb10 := Lib.hid (Bb9.out.later hb); have Bc10 := Lib.hid (Bc9.out.later hb); have Bd10 := Lib.hid (Bd9.out.later hb); have Pp10 := Lib.hid (Pp9.out.later hb); clear hb Bg9 Bx9 Ba9 Bb9 Bc9 Bd9 Pp9 W9))
  all_goals go_ret
  all_goals first | exact ⟨rfl, W1.out⟩ | exact ⟨rfl, W10.out⟩
end Go.Proofs.YtbmfjchdmicdoaaDoor
