/- ValSame, the Go function: it comes out true. -/
import Derived.Test.YtjknicljbmakeaaDoorLawF
import Derived.Test.YtjknicljbmakeaaDoorRefS
import Derived.BigQuiet
import Derived.Lib.QuietBelow
namespace Go.Proofs.YtjknicljbmakeaaDoor
open Go Go.RowKit Go.Sort

mutual
theorem same_refl : ∀ (g : GV), g.Same g
  | .mk k n s l ks ov => by
    simp only [GV.Same, GV.items, GV.vals]
    exact ⟨⟨rfl, rfl, rfl, rfl, rfl⟩, sames_refl l, sames_refl ov⟩
theorem sames_refl : ∀ (l : List GV), GV.Sames l l
  | [] => by simp [GV.Sames]
  | x :: r => by simp only [GV.Sames]; exact ⟨same_refl x, sames_refl r⟩
end
mutual
theorem same_symm : ∀ (g h : GV), g.Same h → h.Same g
  | .mk k n s l ks ov, .mk k' n' s' l' ks' ov', h => by
    simp only [GV.Same, GV.items, GV.vals] at h ⊢
    obtain ⟨⟨h1, h2, h3, h4, h5⟩, h6, h7⟩ := h
    exact ⟨⟨h1.symm, h2.symm, h3.symm, h4.symm, h5.symm⟩, sames_symm l l' h6, sames_symm ov ov' h7⟩
theorem sames_symm : ∀ (l h : List GV), GV.Sames l h → GV.Sames h l
  | [], [], _ => by simp [GV.Sames]
  | [], _ :: _, _ => by simp [GV.Sames]
  | _ :: _, [], _ => by simp [GV.Sames]
  | x :: r, y :: q, h => by
    simp only [GV.Sames] at h ⊢
    exact ⟨same_symm x y h.1, sames_symm r q h.2⟩
end

theorem box_five {W W' : World} {t : TypeId} {cs : Array Value} (h : Below (W.alloc (.cells cs t)).heap.size (W.alloc (.cells cs t)) W') : Whole W' W.heap.size t cs := (Whole.new W t cs).below h (by simp)

theorem same_det {P : Prop} {bb : Bool} {f : FuncId} {args : Array Value} {W : World} {d : Nat} {os : Array Obj} (hbb : bb = true ↔ P) (h : Calls Tryd.prog f args (grow (redrawn W d) os) (EqPost P (grow (redrawn W d) os))) :
    Calls Tryd.prog f args (grow (redrawn W d) os) fun e w'' => e = .returned (.bool bb) ∧ ∃ p : Regrown, w'' = grow (redrawn W p.d) p.os :=
  Calls.regrown_of (h.mono fun e w'' h => by
    obtain ⟨b2, rfl, hb2, hbel⟩ := h
    have : b2 = bb := by rw [Bool.eq_iff_iff, hb2, hbb]
    subst this
    exact ⟨rfl, hbel⟩)

set_option maxRecDepth 100000 in
set_option maxHeartbeats 8000000 in
theorem same_true (hi : Nat) (A A' : Option Addr) (cap cap' : Nat) (ts ts' : List GTok) (w : World) (hcap : ts.length ≤ cap) (hm : cap ≤ maxLen) (hcap' : ts'.length ≤ cap') (hm' : cap' ≤ maxLen) (hhi : hi ≤ w.heap.size) (hT : Toks hi w A ts) (hT' : Toks hi w A' ts')
    (hr : ∀ t ∈ ts, 0 ≤ t.k ∧ t.k ≤ 255 ∧ 0 ≤ t.m ∧ t.m ≤ 255) (hss : ∀ t ∈ ts, t.s.size ≤ 140737488351232) (hr' : ∀ t ∈ ts', 0 ≤ t.k ∧ t.k ≤ 255 ∧ 0 ≤ t.m ∧ t.m ≤ 255) (hss' : ∀ t ∈ ts', t.s.size ≤ 140737488351232) (hU : Tabs w) :
    Calls Tryd.prog 4 #[.slice A ts.length cap, .slice A' ts'.length cap'] w (TrueBelow w) := by
  have hheavy := heavy_any hi A cap ts w hT (by omega) hss
  have hheavy' := heavy_any hi A' cap' ts' w hT' (by omega) hss'
  have hraw : ts.length ≤ 200 → ∀ W, Below w.heap.size w W → Calls Tryd.prog 18 #[.slice A ts.length cap] W (RawOut ts W) := fun h W hb => Raw_any hi A cap ts W hcap hm h (by have := hb.size; omega) (hT.keep (hb.mono hhi) (Nat.le_refl _)) hr
  have hraw' : ts'.length ≤ 200 → ∀ W, Below w.heap.size w W → Calls Tryd.prog 18 #[.slice A' ts'.length cap'] W (RawOut ts' W) := fun h W hb => Raw_any hi A' cap' ts' W hcap' hm' h (by have := hb.size; omega) (hT'.keep (hb.mono hhi) (Nat.le_refl _)) hr'
  have HRAW := Lib.hid (And.intro hraw hraw')
  have HHEAVY := Lib.hid (And.intro hheavy hheavy')
  have HU := Lib.hid hU
  clear hraw hheavy hraw' hheavy' hU hT hr hss hT' hr' hss'
  generalize hn : ts.length = n at *
  generalize hn' : ts'.length = n' at *
  have HN := Lib.hid (And.intro hn hn')
  clear hn hn'
  go_enter Tryd.func4, Tryd.ntmps4
  go_wp2_with (first | (go_at_call 16; refine HB0.out.mono ?_; rintro e w' ⟨b', rfl, rfl, hb'⟩; have HB' := Lib.hid hb'; clear hb') | (go_at_call 16; refine HHEAVY.out.1.mono ?_; rintro e w' ⟨b, rfl, rfl, hb⟩; have HB := Lib.hid hb; clear hb; have HB0 := Lib.hid HHEAVY.out.2) | (go_at_call 17; refine (known_true _ HU.out).mono ?_; rintro e W1 ⟨rfl, hb1⟩; have HB1 := Lib.hid hb1; clear hb1) | (go_at_call 18; refine (HRAW.out.2 (by have := (HB'.out (by simpa using ‹¬ b' = true›)).1; have := HN.out; omega) _ (HB2.out.alloc (by have := HB2.out.size; omega) _)).mono ?_; rintro e W3 ⟨h, v, rfl, hv, hw, hb3⟩; obtain ⟨L', O', rfl, hL', hO'⟩ := hv; obtain ⟨BL', dL', rfl⟩ := lst_form hL'; obtain ⟨BO', dO', rfl⟩ := obj_form hO'; have HV' := Lib.hid (And.intro hL' hO'); have HB3 := Lib.hid hb3; have HW' := Lib.hid hw; clear hL' hO' hw hb3) | (go_at_call 18; refine (HRAW.out.1 (by have := (HB.out (by simpa using ‹¬ b = true›)).1; have := HN.out; omega) _ HB1.out).mono ?_; rintro e W2 ⟨g, v, rfl, hv, hw, hb2⟩; obtain ⟨L, O, rfl, hL, hO⟩ := hv; obtain ⟨BL, dL, rfl⟩ := lst_form hL; obtain ⟨BO, dO, rfl⟩ := obj_form hO; have HV := Lib.hid (And.intro hL hO); have HB2 := Lib.hid (HB1.out.trans (hb2.mono (HB1.out.size))); have HW := Lib.hid hw; clear hL hO hw hb2))
  · refine bodyPost_ret (v := .bool true) (by simp [results, Tryd.results4, go_sem]) rfl ?_
    exact ⟨rfl, HB1.out⟩
  · refine bodyPost_ret (v := .bool true) (by simp [results, Tryd.results4, go_sem]) rfl ?_
    exact ⟨rfl, HB1.out⟩
  have hgz : g.size ≤ 1000000000 := by have h1 := size_le_weight g; have h2 := (HB.out (by simpa using ‹¬ b = true›)).2; have h3 := HW.out; omega
  have hhz : h.size ≤ 1000000000 := by have h1 := size_le_weight h; have h2 := (HB'.out (by simpa using ‹¬ b' = true›)).2; have h3 := HW'.out; omega
  have hbx : Below w.heap.size w (W3.alloc (.cells #[.int .u8 h.kind, .int .i64 h.num, .string h.str, .slice BL' h.items.length dL', .slice BO' h.vals.length dO'] 28)) :=
    ((HB2.out.alloc (by have := HB2.out.size; omega) _).trans (HB3.out.mono (by have := HB2.out.size; simp; omega))).alloc (by have h1 := HB2.out.size; have h2 := HB3.out.size; simp at h2; omega) _
  have b1 := (box_five HB3.out).alloc (.cells #[.int .u8 h.kind, .int .i64 h.num, .string h.str, .slice BL' h.items.length dL', .slice BO' h.vals.length dO'] 28)
  have b2 := Whole.new W3 28 #[.int .u8 h.kind, .int .i64 h.num, .string h.str, .slice BL' h.items.length dL', .slice BO' h.vals.length dO']
  have hv1 := GV.val_keep (ok' := fun _ => True) (From.of_below ((Below.refl _ W3).alloc (Nat.le_refl _) (.cells #[.int .u8 h.kind, .int .i64 h.num, .string h.str, .slice BL' h.items.length dL', .slice BO' h.vals.length dO'] 28))) (fun _ _ _ => trivial) (GV.val_keep (ok' := fun _ => True) (From.of_below HB3.out) (fun _ _ _ => trivial) (law_box HV.out (.cells #[.int .u8 g.kind, .int .i64 g.num, .string g.str, .slice BL g.items.length dL, .slice BO g.vals.length dO] 28)))
  have hv2 := GV.val_keep (ok' := fun _ => True) (From.refl _ _) (fun _ _ _ => trivial) (law_box HV'.out (.cells #[.int .u8 h.kind, .int .i64 h.num, .string h.str, .slice BL' h.items.length dL', .slice BO' h.vals.length dO'] 28))
  generalize (W3.alloc (.cells #[.int .u8 h.kind, .int .i64 h.num, .string h.str, .slice BL' h.items.length dL', .slice BO' h.vals.length dO'] 28)) = Wx at hbx b1 b2 hv1 hv2 ⊢
  obtain ⟨bb, hbb⟩ : ∃ bb : Bool, bb = true ↔ g.Same h := by
    by_cases hP : g.Same h
    · exact ⟨true, by simp [hP]⟩
    · exact ⟨false, by simp [hP]⟩
  have k1 := fun (d : Nat) (os : Array Obj) => GV.val_keep (ok' := fun _ => True) (From.of_below (below_regrown Wx d os)) (fun _ _ _ => trivial) hv1
  have k2 := fun (d : Nat) (os : Array Obj) => GV.val_keep (ok' := fun _ => True) (From.of_below (below_regrown Wx d os)) (fun _ _ _ => trivial) hv2
  have c1 := fun (d : Nat) (os : Array Obj) => same_det hbb (val_Same _ _ _ g h (grow (redrawn Wx d) os) (k1 d os) (k2 d os) hgz hhz)
  have c2 := fun (d : Nat) (os : Array Obj) => same_det hbb (ref_Same g.size _ _ _ g h (grow (redrawn Wx d) os) (Nat.le_refl _) (k1 d os) (k2 d os) hgz hhz)
  have c3 := fun (d : Nat) (os : Array Obj) => same_det (bb := true) (by simp [same_refl g]) (val_Same _ _ _ g g (grow (redrawn Wx d) os) (k1 d os) (k1 d os) hgz hgz)
  have c4 := fun (d : Nat) (os : Array Obj) => same_det (bb := bb) (hbb.trans ⟨same_symm g h, same_symm h g⟩) (val_Same _ _ _ h g (grow (redrawn Wx d) os) (k2 d os) (k1 d os) hhz hgz)
  obtain ⟨x0, x1, x2, x3, x4, _⟩ := b1.five
  obtain ⟨y0, y1, y2, y3, y4, _⟩ := b2.five
  have u0 := cell_regrown x0
  have u1 := cell_regrown x1
  have u2 := cell_regrown x2
  have u3 := cell_regrown x3
  have u4 := cell_regrown x4
  have v0 := cell_regrown y0
  have v1 := cell_regrown y1
  have v2 := cell_regrown y2
  have v3 := cell_regrown y3
  have v4 := cell_regrown y4
  have C1 := Lib.hid c1
  have C2 := Lib.hid c2
  have C3 := Lib.hid c3
  have C4 := Lib.hid c4
  have HX := Lib.hid hbx
  clear c1 c2 c3 c4 k1 k2 hv1 hv2 b1 b2 x0 x1 x2 x3 x4 y0 y1 y2 y3 y4 hbb hbx hgz hhz
  cases bb
  all_goals
    refine wp_region_quiet_below (by kernel_rfl) (by kernel_rfl) ?_
    repeat (quiet_step (first | with_reducible exact C1.out _ _ | with_reducible exact C2.out _ _ | with_reducible exact C3.out _ _ | with_reducible exact C4.out _ _))
    refine wpQuiet_nil ?_
    intro _ hw'
    obtain ⟨⟨dq, osq⟩, hw''⟩ := hw'
    subst hw''
    go_wp2
    refine bodyPost_ret (v := .bool true) (by simp [results, Tryd.results4, go_sem]) rfl ?_
    exact ⟨rfl, HX.out.trans ((below_regrown Wx dq osq).mono HX.out.size)⟩
end Go.Proofs.YtjknicljbmakeaaDoor
