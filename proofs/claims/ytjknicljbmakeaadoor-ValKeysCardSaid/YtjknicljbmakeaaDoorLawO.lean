/- ValSounds, the Go function: it comes out true. -/
import Derived.Test.YtjknicljbmakeaaDoorLawF
import Derived.Test.YtjknicljbmakeaaDoorLawS
import Derived.Test.YtjknicljbmakeaaDoorRefC
import Derived.Test.YtjknicljbmakeaaDoorRefO
import Derived.BigQuiet
import Derived.Lib.QuietBelow
namespace Go.Proofs.YtjknicljbmakeaaDoor
open Go Go.RowKit Go.Sort

theorem bool_det {P : Prop} {bb : Bool} {f : FuncId} {args : Array Value} {W : World} {d : Nat} {os : Array Obj} (hbb : bb = true ↔ P) (h : Calls Tryd.prog f args (grow (redrawn W d) os) (BoolPost P (grow (redrawn W d) os))) :
    Calls Tryd.prog f args (grow (redrawn W d) os) fun e w'' => e = .returned (.bool bb) ∧ ∃ p : Regrown, w'' = grow (redrawn W p.d) p.os :=
  Calls.regrown_of (h.mono fun e w'' h => by
    obtain ⟨b2, rfl, hb2, hbel⟩ := h
    have : b2 = bb := by rw [Bool.eq_iff_iff, hb2, hbb]
    subst this
    exact ⟨rfl, hbel⟩)

set_option maxRecDepth 100000 in
set_option maxHeartbeats 8000000 in
theorem sounds_true (hi : Nat) (A : Option Addr) (cap : Nat) (ts : List GTok) (w : World) (hcap : ts.length ≤ cap) (hm : cap ≤ maxLen) (hhi : hi ≤ w.heap.size) (hT : Toks hi w A ts)
    (hr : ∀ t ∈ ts, 0 ≤ t.k ∧ t.k ≤ 255 ∧ 0 ≤ t.m ∧ t.m ≤ 255) (hss : ∀ t ∈ ts, t.s.size ≤ 140737488351232) (hU : Tabs w) :
    Calls Tryd.prog 3 #[.slice A ts.length cap] w (TrueBelow w) := by
  have hheavy := heavy_any hi A cap ts w hT (by omega) (hss)
  have hraw : ts.length ≤ 200 → ∀ W, Below w.heap.size w W → Calls Tryd.prog 18 #[.slice A ts.length cap] W (RawOutP ts W) := fun h W hb => Raw_pos hi A cap ts W hcap hm h (by have := hb.size; omega) (hT.keep (hb.mono hhi) (Nat.le_refl _)) hr
  have HRAW := Lib.hid hraw
  have HHEAVY := Lib.hid hheavy
  have HU := Lib.hid hU
  clear hraw hheavy hU hT hr hss
  generalize hn : ts.length = n at *
  have HN := Lib.hid hn
  clear hn
  go_enter Tryd.func3, Tryd.ntmps3
  go_wp2_with (first | (go_at_call 16; refine HHEAVY.out.mono ?_; rintro e w' ⟨b, rfl, rfl, hb⟩; have HB := Lib.hid hb; clear hb) | (go_at_call 17; refine (known_true _ HU.out).mono ?_; rintro e W1 ⟨rfl, hb1⟩; have HB1 := Lib.hid hb1; clear hb1) | (go_at_call 18; refine (HRAW.out (by have := (HB.out (by simpa using ‹¬ b = true›)).1; have := HN.out; omega) _ HB1.out).mono ?_; rintro e W2 ⟨g, v, rfl, hv, hw, hp, hb2⟩; obtain ⟨L, O, rfl, hL, hO⟩ := hv; obtain ⟨BL, dL, rfl⟩ := lst_form hL; obtain ⟨BO, dO, rfl⟩ := obj_form hO; have HV := Lib.hid (And.intro hL hO); have HB2 := Lib.hid (HB1.out.trans (hb2.mono (HB1.out.size))); have HW := Lib.hid (And.intro hw hp); clear hL hO hw hp hb2) | (go_at_call 19; refine (ref_Copy g.size (fun k => W1.heap.size ≤ k) _ g _ (Nat.le_refl _) (law_box HV.out _) (by have h1 := size_le_weight g; have h2 := (HB.out (by simpa using ‹¬ b = true›)).2; have h3 := HW.out.1; omega)).mono ?_; rintro e W3 ⟨v', rfl, ⟨L', O', rfl, hL', hO'⟩, hb3⟩; obtain ⟨BL', dL', rfl⟩ := lst_form hL'; obtain ⟨BO', dO', rfl⟩ := obj_form hO'; have HV' := Lib.hid (And.intro hL' hO'); have HB3 := Lib.hid hb3; clear hL' hO' hb3))
  · refine bodyPost_ret (v := .bool true) (by simp [results, Tryd.results3, go_sem]) rfl ?_
    exact ⟨rfl, HB1.out⟩
  have hgw : g.weight ≤ 1000000000 := by have h2 := (HB.out (by simpa using ‹¬ b = true›)).2; have h3 := HW.out.1; omega
  have hgz : g.size ≤ 1000000000 := Nat.le_trans (size_le_weight g) hgw
  have hbx : Below w.heap.size w (W3.alloc (.cells #[.int .u8 g.kind, .int .i64 g.num, .string g.str, .slice BL' g.items.length dL', .slice BO' g.vals.length dO'] 28)) :=
    ((HB2.out.alloc (by have := HB2.out.size; omega) _).trans (HB3.out.mono (by have := HB2.out.size; simp; omega))).alloc (by have h1 := HB2.out.size; have h2 := HB3.out.size; simp at h2; omega) _
  have b1 := (box_five HB3.out).alloc (.cells #[.int .u8 g.kind, .int .i64 g.num, .string g.str, .slice BL' g.items.length dL', .slice BO' g.vals.length dO'] 28)
  have b2 := Whole.new W3 28 #[.int .u8 g.kind, .int .i64 g.num, .string g.str, .slice BL' g.items.length dL', .slice BO' g.vals.length dO']
  have hv1 := GV.val_keep (ok' := fun _ => True) (From.of_below ((Below.refl _ W3).alloc (Nat.le_refl _) (.cells #[.int .u8 g.kind, .int .i64 g.num, .string g.str, .slice BL' g.items.length dL', .slice BO' g.vals.length dO'] 28))) (fun _ _ _ => trivial) (GV.val_keep (ok' := fun _ => True) (From.of_below HB3.out) (fun _ _ _ => trivial) (law_box HV.out (.cells #[.int .u8 g.kind, .int .i64 g.num, .string g.str, .slice BL g.items.length dL, .slice BO g.vals.length dO] 28)))
  have hv2 := GV.val_keep (ok' := fun _ => True) (From.refl _ _) (fun _ _ _ => trivial) (law_box HV'.out (.cells #[.int .u8 g.kind, .int .i64 g.num, .string g.str, .slice BL' g.items.length dL', .slice BO' g.vals.length dO'] 28))
  generalize (W3.alloc (.cells #[.int .u8 g.kind, .int .i64 g.num, .string g.str, .slice BL' g.items.length dL', .slice BO' g.vals.length dO'] 28)) = Wx at hbx b1 b2 hv1 hv2 ⊢
  obtain ⟨bb, hbb⟩ : ∃ bb : Bool, bb = true ↔ g.Sound := by
    by_cases hP : g.Sound
    · exact ⟨true, by simp [hP]⟩
    · exact ⟨false, by simp [hP]⟩
  have k1 := fun (d : Nat) (os : Array Obj) => GV.val_keep (ok' := fun _ => True) (From.of_below (below_regrown Wx d os)) (fun _ _ _ => trivial) hv1
  have k2 := fun (d : Nat) (os : Array Obj) => GV.val_keep (ok' := fun _ => True) (From.of_below (below_regrown Wx d os)) (fun _ _ _ => trivial) hv2
  have kT : ∀ (d : Nat) (os : Array Obj), Tabs (grow (redrawn Wx d) os) := fun d os => HU.out.below (hbx.trans ((below_regrown Wx d os).mono hbx.size)) (Nat.le_refl _)
  have C1 := Lib.hid fun (d : Nat) (os : Array Obj) => bool_det hbb (val_Sound _ _ g (grow (redrawn Wx d) os) (k1 d os) hgw (kT d os))
  have C2 := Lib.hid fun (d : Nat) (os : Array Obj) => bool_det hbb (ref_Sound g.size _ _ g (grow (redrawn Wx d) os) (Nat.le_refl _) (k2 d os) hgw HW.out.2 (kT d os))
  have C3 := Lib.hid fun (d : Nat) (os : Array Obj) => Calls.regrown_of (val_Weight _ _ g (grow (redrawn Wx d) os) (k1 d os) hgw)
  have C4 := Lib.hid fun (d : Nat) (os : Array Obj) => Calls.regrown_of (ref_Weight g.size _ _ g (grow (redrawn Wx d) os) (Nat.le_refl _) (k2 d os) hgw)
  have C5 := Lib.hid fun (d : Nat) (os : Array Obj) => Calls.regrown_of (val_Deep _ _ g (grow (redrawn Wx d) os) (k1 d os) hgz)
  have C6 := Lib.hid fun (d : Nat) (os : Array Obj) => Calls.regrown_of (ref_Deep g.size _ _ g (grow (redrawn Wx d) os) (Nat.le_refl _) (k2 d os) hgz)
  have C7 := Lib.hid fun (d : Nat) (os : Array Obj) => same_det (bb := true) (by simp [same_refl g]) (ref_Same g.size _ _ _ g g (grow (redrawn Wx d) os) (Nat.le_refl _) (k1 d os) (k2 d os) hgz hgz)
  obtain ⟨x0, x1, x2, x3, x4, _⟩ := b1.five
  obtain ⟨y0, y1, y2, y3, y4, _⟩ := b2.five
  have u0 := cell_regrown x0
  have u1 := cell_regrown x1
  have u2 := cell_regrown x2
  have u3 := cell_regrown x3
  have u4 := cell_regrown x4
  have v0 := cell_regrown y0
  have v1 := cell_regrown y1
  have v2 := cell_regrown y2
  have v3 := cell_regrown y3
  have v4 := cell_regrown y4
  have HX := Lib.hid hbx
  clear k1 k2 kT hv1 hv2 b1 b2 x0 x1 x2 x3 x4 y0 y1 y2 y3 y4 hbb hbx hgz hgw
  cases bb
  all_goals
    refine wp_region_quiet_below (by kernel_rfl) (by kernel_rfl) ?_
    repeat (any_goals (go_big_quiet_step (first | with_reducible exact C1.out _ _ | with_reducible exact C2.out _ _ | with_reducible exact C3.out _ _ | with_reducible exact C4.out _ _ | with_reducible exact C5.out _ _ | with_reducible exact C6.out _ _ | with_reducible exact C7.out _ _)))
    refine wpQuiet_nil ?_
    intro _ hw'
    obtain ⟨⟨dq, osq⟩, hw''⟩ := hw'
    subst hw''
    go_wp2
    refine bodyPost_ret (v := .bool true) (by simp [results, Tryd.results3, go_sem]) rfl ?_
    exact ⟨rfl, HX.out.trans ((below_regrown Wx dq osq).mono HX.out.size)⟩
end Go.Proofs.YtjknicljbmakeaaDoor
