/- JsonBack returns true. -/
import Derived.Test.YtmmjkhkcffgeiaaDoorJLawX
namespace Go.Proofs.YtmmjkhkcffgeiaaDoor
open Go Go.RowKit Go.Shelf
set_option linter.unusedVariables false
set_option linter.unusedSimpArgs false

set_option maxHeartbeats 4000000 in
set_option maxRecDepth 100000 in
theorem jback_row (hi : Nat) (A : Option Addr) (cap : Nat) (ts : List GTok) (w : World) (hcap : ts.length ≤ cap) (hm : cap ≤ maxLen) (hhi : hi ≤ w.heap.size) (hT : Toks hi w A ts)
    (hr : ∀ t ∈ ts, 0 ≤ t.k ∧ t.k ≤ 255 ∧ 0 ≤ t.m ∧ t.m ≤ 255) (hss : ∀ t ∈ ts, t.s.size ≤ 140737488351232) (h : JT w) : Calls Tryd.prog 5 #[.slice A ts.length cap] w (TrueOut w) := by
  have HH := Lib.hid (heavyj_any hi A cap ts w hT (Nat.le_trans hcap hm) hss)
  have HK := Lib.hid (jknown_true w h)
  have HJ := Lib.hid h
  have HB := Lib.hid (fun W hb => build_j hi A cap ts w W hcap hm hhi hT hr hss hb)
  clear hcap hm hhi hT hr hss h
  go_enter Tryd.func5, Tryd.ntmps5
  go_wp2_with (first
    | (go_at_call 13; (with_reducible refine HH.out.mono ?_); rintro e w1 ⟨b, rfl, rfl, hb⟩; clear hb; cases b)
    | (go_at_call 10; (with_reducible refine HK.out.mono ?_); rintro e w1 ⟨rfl, hb⟩; have H1 := Lib.hid hb; clear hb)
    | (go_at_call 16; (with_reducible refine (HB.out _ H1.out).mono ?_); rintro e w2 ⟨g, BL, dL, BO, dO, rfl, hL, hO, hj, hb⟩; have H2 := Lib.hid (And.intro (below_next H1.out hb) (And.intro hL (And.intro hO hj))); clear hb hL hO hj)
    | (go_at_call 11; (with_reducible refine (enc_is (fun _ => True) _ g _ (HJ.out.below (below_new H2.out.1 _)) (val_here H2.out.2.1 H2.out.2.2.1) H2.out.2.2.2.posN H2.out.2.2.2.snd H2.out.2.2.2.fits).mono ?_); rintro e w3 ⟨rfl, hb⟩; have H3 := Lib.hid (And.intro (below_then H2.out.1 hb) (And.intro ((Whole.new w2 31 #[.int .u8 g.kind, .int .i64 g.num, .string g.str, .slice BL g.items.length dL, .slice BO g.vals.length dO]).below hb (by simp)) (val_later (val_here H2.out.2.1 H2.out.2.2.1) hb))); clear hb)
    | (go_at_call 12; (with_reducible refine (dec_is _ g _ (HJ.out.below H3.out.1) H2.out.2.2.2.small H2.out.2.2.2.is).mono ?_); rintro e w4 ⟨BL', dL', BO', dO', rfl, hL, hO, hb⟩; have hx := H3.out.2.1.below hb H3.out.2.1.lt; have q := fun o => (hx.alloc o).five; have b0 := fun o => (q o).c0; have b1 := fun o => (q o).c1; have b2 := fun o => (q o).c2; have b3 := fun o => (q o).c3; have b4 := fun o => (q o).c4; have H4 := Lib.hid (And.intro (below_next H3.out.1 hb) (And.intro (val_later H3.out.2.2 hb) (And.intro hL hO))); clear hb hL hO hx q)
    | (go_at_call 17; (with_reducible refine (same_is (fun _ => True) _ _ g _ (val_later H4.out.2.1 (below_alloc0 _ _)) (val_here H4.out.2.2.1 H4.out.2.2.2) H2.out.2.2.2.sizeG).mono ?_); rintro e w5 ⟨rfl, hb⟩; have H5 := Lib.hid (below_then H4.out.1 hb); clear hb))
  all_goals go_ret
  all_goals first
    | exact ⟨rfl, H5.out⟩
    | exact ⟨rfl, H1.out⟩
end Go.Proofs.YtmmjkhkcffgeiaaDoor
