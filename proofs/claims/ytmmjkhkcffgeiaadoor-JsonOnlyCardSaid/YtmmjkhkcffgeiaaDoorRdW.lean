/- json's reader: the value of a whole text. -/
import Derived.Test.YtmmjkhkcffgeiaaDoorRdV
import Derived.Test.YtmmjkhkcffgeiaaDoorEnc
namespace Go.Proofs.YtmmjkhkcffgeiaaDoor
open Go Go.RowKit Go.Shelf
set_option linter.unusedVariables false
set_option linter.unusedSimpArgs false

theorem encL_ge : ∀ (t : List UInt8), t.length ≤ (encL t).length
  | [] => by simp
  | c :: t => by
    have := encL_ge t
    rw [encL_cons, List.length_append, List.length_cons]
    have hc : 1 ≤ (encLetter c).length := by unfold encLetter; split <;> (try split) <;> simp
    omega
mutual
/-- A value weighs no more than its text is long. -/
theorem weight_enc : ∀ (g : GV), g.RS → g.weight ≤ g.enc.length
  | .mk k n s l ks ov, hg => by
    simp only [GV.RS] at hg
    obtain ⟨⟨h1, h2, h3, h4, h5, h6⟩, hl, ho⟩ := hg
    have e1 := weights_enc l true hl
    have e2 := weights_encFs ov ks true ho h6
    have e3 := encL_ge s.data.toList
    have e4 : s.data.toList.length = s.size := by simp
    rw [GV.weight]
    have k0 : ov = [] → ks = [] := fun e => by subst e; exact List.length_eq_zero_iff.1 h6
    have hz : (⟨#[]⟩ : ByteArray).size = 0 := rfl
    have w0 : GV.weights ([] : List GV) = 0 := by simp [GV.weights]
    rcases h1 with rfl | rfl | rfl | rfl | rfl | rfl
    · simp at h3 h4 h5; have := k0 h5; subst h3 h4 h5 this; rw [enc_0, hz, w0]; decide
    · simp at h3 h4 h5; have := k0 h5; subst h3 h4 h5 this; rw [enc_1, hz, w0]; split <;> decide
    · simp at h3 h4 h5; have := k0 h5; subst h3 h4 h5 this; rw [enc_2, hz, w0]
      have : 1 ≤ (Lib.itoa n).length := by obtain ⟨c, t, h, _⟩ := itoa_head n; rw [h]; simp
      simpa using this
    · simp at h4 h5; have := k0 h5; subst h4 h5 this; rw [enc_3, w0]
      simp only [encText, List.length_cons, List.length_append, List.length_nil, List.map_nil, List.sum_nil]
      omega
    · simp at h3 h5; have := k0 h5; subst h3 h5 this; rw [enc_4, hz, w0]
      simp only [List.length_cons, List.length_append, List.length_nil, List.map_nil, List.sum_nil]
      omega
    · simp at h3 h4; subst h3 h4; rw [enc_5, hz, w0]
      simp only [List.length_cons, List.length_append, List.length_nil]
      omega
theorem weights_enc : ∀ (l : List GV) (b : Bool), GV.RSs l → GV.weights l ≤ (GV.encs b l).length
  | [], b, _ => by simp [encs_nil, GV.weights]
  | g :: r, b, h => by
    simp only [GV.RSs] at h
    have h1 := weight_enc g h.1
    have h2 := weights_enc r false h.2
    rw [encs_cons, GV.weights, List.length_append, List.length_append]
    omega
theorem weights_encFs : ∀ (l : List GV) (ks : List ByteArray) (b : Bool), GV.RSs l → ks.length = l.length → (ks.map (·.size)).sum + GV.weights l ≤ (GV.encFs b ks l).length
  | [], ks, b, _, hk => by have := List.length_eq_zero_iff.1 hk; subst this; simp [encFs_nil, GV.weights]
  | g :: r, [], b, _, hk => by simp at hk
  | g :: r, k :: ks, b, h, hk => by
    simp only [GV.RSs] at h
    have h1 := weight_enc g h.1
    have h2 := weights_encFs r ks false h.2 (by simpa using hk)
    have h3 := encL_ge k.data.toList
    have h4 : k.data.toList.length = k.size := by simp
    rw [encFs_cons, GV.weights]
    simp only [encText, List.length_append, List.length_cons, List.length_nil, List.map_cons, List.sum_cons]
    omega
end
/-- The value that a text is. -/
def Is (s : ByteArray) (g : GV) : Prop := VAt 16 s.data.toList g [] ∧ g.Sound ∧ Fits g
theorem Is.one {s : ByteArray} {g g' : GV} (h : Is s g) (h' : Is s g') : g = g' := (vat_one h.1 h'.1).1
/-- How whole ends. -/
def WholeOut (s : ByteArray) (w : World) (e : Ending) (w' : World) : Prop :=
  (∃ (g : GV) (v : Value), Is s g ∧ e = .returned v ∧ g.val (fun k => w.heap.size ≤ k) w' v ∧ Below w.heap.size w w') ∨ ((¬ ∃ g, Is s g) ∧ ∃ v, e = .panicked [{ v := v, recovered := false }] ∧ BadV v ∧ Below w.heap.size w w')
theorem rest0 (s : ByteArray) : rest s 0 = s.data.toList := by unfold rest; simp
theorem vat_all {s : ByteArray} {g g' : GV} {j : Nat} (h : VAt 16 (rest s 0) g (rest s j)) (hj : j ≤ s.size) (h' : VAt 16 s.data.toList g' []) : g = g' ∧ j = s.size := by
  rw [rest0] at h
  obtain ⟨h1, h2⟩ := vat_one h h'
  refine ⟨h1, ?_⟩
  have := congrArg List.length h2
  rw [rest_length] at this
  simp at this
  omega
set_option maxHeartbeats 8000000 in
set_option maxRecDepth 100000 in
theorem whole_no (s : ByteArray) (W : World) (hs : s.size ≤ 60000) (hU : Tabs W) (hE : ErrsB W.heap.size W) (hT : TenB W.heap.size W) (hno : ¬ ∃ g, VAt 16 s.data.toList g []) : Calls Tryd.prog 25 #[.string s] W (WholeOut s W) := by
  have hb0 : Below W.heap.size W ((W.alloc (.cells #[.int .u8 0, .int .i64 0, .string ⟨#[]⟩, .slice none 0 0, .slice none 0 0] 31)).alloc (.cells #[.string s, .int .i64 0, .int .i64 0] 80)) := (below_alloc0 W _).alloc (by simp) _
  have hA0 : At ((W.alloc (.cells #[.int .u8 0, .int .i64 0, .string ⟨#[]⟩, .slice none 0 0, .slice none 0 0] 31)).alloc (.cells #[.string s, .int .i64 0, .int .i64 0] 80)) (W.heap.size + 1) s 0 0 := ⟨by simpa using Whole.new (W.alloc (.cells #[.int .u8 0, .int .i64 0, .string ⟨#[]⟩, .slice none 0 0, .slice none 0 0] 31)) 80 #[.string s, .int .i64 0, .int .i64 0], Nat.zero_le _, hs⟩
  have HV := Lib.hid (r_value 16 (W.heap.size + 1) W.heap.size s 0 0 _ hA0 rfl (by omega) (hE.later hb0) (hT.later hb0))
  have HB0 := Lib.hid hb0
  have HU := Lib.hid hU
  have HN := Lib.hid hno
  clear hno
  clear hb0 hA0 hs hU hE hT
  go_enter Tryd.func25, Tryd.ntmps25
  go_wp2_with (first
    | (go_at_call 42; refine HV.out.mono ?_; rintro e W3 (⟨g, j, v, hv, rfl, ⟨L, O, rfl, hL, hO⟩, hA, hR⟩ | ⟨hn, v, rfl, hv, hR⟩); rotate_left; exact panic_post rfl (.inr ⟨fun ⟨g, hg⟩ => hn ⟨g, [], by rw [rest0]; exact hg.1⟩, _, rfl, hv, HB0.out.trans (hR.below (by omega) (by simp; omega))⟩); obtain ⟨BL, dL, rfl⟩ := lst_form hL; obtain ⟨BO, dO, rfl⟩ := obj_form hO; have hj : ((j : Int) == (s.size : Int)) = false := (by simp only [beq_eq_false_iff_ne, ne_eq]; intro e; have e2 : j = s.size := (by omega); subst e2; rw [rest_end, rest0] at hv; exact HN.out ⟨g, hv⟩); obtain ⟨c0, c1, c2, f0, f1, f2⟩ := hA.cells; have d1 := fun o => cell_alloc o c1; have H3 := Lib.hid (HB0.out.trans (hR.below (by omega) (by simp; omega))); clear hv hL hO hA hR)
    | (go_at_call 24; refine (need_bad _ _).mono ?_; rintro e W4 ⟨rfl, rfl⟩))
  exact panic_post rfl (.inr ⟨fun ⟨g, hg⟩ => HN.out ⟨g, hg.1⟩, _, rfl, .inl rfl, (H3.out.alloc (by have := H3.out.size; omega) _)⟩)
theorem Below.put5 {W W2 : World} {B X : Nat} (h : Below B W W2) (hX : B ≤ X) (a0 a1 a2 a3 a4 : Value) : Below B W (put5 W2 X a0 a1 a2 a3 a4) :=
  ((((h.setCell hX _).setCell hX _).setCell hX _).setCell hX _).setCell hX _
theorem wh_L {W3 : World} {B : Nat} {o : Obj} {L : Value} {l : List GV} (h : LstV (fun k => B ≤ k) W3 L l) : LstV (fun k => W3.heap.size > k ∧ B ≤ k) (W3.alloc o) L l := h.keep (fun k _ hk => Below.heap_alloc W3 o k hk) fun k hk hl => ⟨hl, hk⟩
theorem wh_O {W3 : World} {B : Nat} {o : Obj} {O : Value} {ks : List ByteArray} {ov : List GV} (h : ObjV (fun k => B ≤ k) W3 O ks ov) : ObjV (fun k => W3.heap.size > k ∧ B ≤ k) (W3.alloc o) O ks ov := h.keep (fun k _ hk => Below.heap_alloc W3 o k hk) fun k hk hl => ⟨hl, hk⟩
theorem wh_val {W3 : World} {B : Nat} {o : Obj} {g : GV} {L O : Value} (hL : LstV (fun k => B ≤ k) W3 L g.items) (hO : ObjV (fun k => B ≤ k) W3 O g.keys g.vals) : g.val (fun k => W3.heap.size > k ∧ B ≤ k) (W3.alloc o) (.agg #[.int .u8 g.kind, .int .i64 g.num, .string g.str, L, O]) := ⟨L, O, rfl, wh_L hL, wh_O hO⟩
set_option maxHeartbeats 8000000 in
set_option maxRecDepth 100000 in
theorem whole_ns (s : ByteArray) (W : World) (hs : s.size ≤ 60000) (hU : Tabs W) (hE : ErrsB W.heap.size W) (hT : TenB W.heap.size W) (g : GV) (hg : VAt 16 s.data.toList g []) (hsnd : ¬ g.Sound) : Calls Tryd.prog 25 #[.string s] W (WholeOut s W) := by
  have hb0 : Below W.heap.size W ((W.alloc (.cells #[.int .u8 0, .int .i64 0, .string ⟨#[]⟩, .slice none 0 0, .slice none 0 0] 31)).alloc (.cells #[.string s, .int .i64 0, .int .i64 0] 80)) := (below_alloc0 W _).alloc (by simp) _
  have hA0 : At ((W.alloc (.cells #[.int .u8 0, .int .i64 0, .string ⟨#[]⟩, .slice none 0 0, .slice none 0 0] 31)).alloc (.cells #[.string s, .int .i64 0, .int .i64 0] 80)) (W.heap.size + 1) s 0 0 := ⟨by simpa using Whole.new (W.alloc (.cells #[.int .u8 0, .int .i64 0, .string ⟨#[]⟩, .slice none 0 0, .slice none 0 0] 31)) 80 #[.string s, .int .i64 0, .int .i64 0], Nat.zero_le _, hs⟩
  have HV := Lib.hid (r_value 16 (W.heap.size + 1) W.heap.size s 0 0 _ hA0 rfl (by omega) (hE.later hb0) (hT.later hb0))
  have HB0 := Lib.hid hb0
  have HU := Lib.hid hU
  have HG := Lib.hid hg
  have hw : g.weight ≤ 60000 := by
    have h1 := weight_enc g hg.1
    have h2 := congrArg List.length hg.2.2.1
    simp at h2
    omega
  have HW := Lib.hid hw
  have HS := Lib.hid hsnd
  clear hg hw hsnd
  clear hb0 hA0 hs hU hE hT
  go_enter Tryd.func25, Tryd.ntmps25
  go_wp2_with (first
    | (go_at_call 42; refine HV.out.mono ?_; rintro e W3 (⟨g', j, v, hv, rfl, ⟨L, O, rfl, hL, hO⟩, hA, hR⟩ | ⟨hn, v, rfl, hv, hR⟩); rotate_left; exact panic_post rfl (.inr ⟨fun ⟨g, hg⟩ => hn ⟨g, [], by rw [rest0]; exact hg.1⟩, _, rfl, hv, HB0.out.trans (hR.below (by omega) (by simp; omega))⟩); obtain ⟨e1, e2⟩ := vat_all hv hA.le HG.out; subst e1; subst e2; obtain ⟨BL, dL, rfl⟩ := lst_form hL; obtain ⟨BO, dO, rfl⟩ := obj_form hO; have hj : ((s.size : Int) == (s.size : Int)) = true := (by simp); have hL := hL.keep (ok' := fun k => W.heap.size + 2 ≤ k) (From.refl _ _) (fun k hk _ => (by simpa using hk)); have hO := hO.keep (ok' := fun k => W.heap.size + 2 ≤ k) (From.refl _ _) (fun k hk _ => (by simpa using hk)); obtain ⟨c0, c1, c2, f0, f1, f2⟩ := hA.cells; have d1 := fun o => cell_alloc o c1; have hres := hR.whole ((Whole.new W 31 #[.int .u8 0, .int .i64 0, .string ⟨#[]⟩, .slice none 0 0, .slice none 0 0]).alloc (.cells #[.string s, .int .i64 0, .int .i64 0] 80)) (by omega); have H3 := Lib.hid (And.intro (HB0.out.trans (hR.below (by omega) (by simp; omega))) (And.intro hL (And.intro hO hres))); clear hv hL hO hA hR hres)
    | (go_at_call 24; (with_reducible refine (need_ok _ _).mono ?_); rintro e W4 ⟨rfl, rfl⟩)
    | (go_at_call 24; (with_reducible refine (need_bad _ _).mono ?_); rintro e W4 ⟨rfl, rfl⟩)
    | (go_at_call 19; go_loud (refine (val_Sound (fun k => W3.heap.size > k ∧ W.heap.size + 2 ≤ k) _ g' _ (wh_val H3.out.2.1 H3.out.2.2.1) (by have := HW.out; omega) (HU.out.below (H3.out.1.alloc (by have := H3.out.1.size; omega) _) (Nat.le_refl _))).mono ?_; rintro e W5 ⟨b, rfl, hb, hb5⟩; have eb : b = false := (by cases b; rfl; exact absurd (hb.1 rfl) HS.out); subst eb; have hx := (Whole.new W3 _ _).below hb5 (by simp); obtain ⟨b0, b1, b2, b3, b4, _⟩ := hx.five; have H5 := Lib.hid hb5; clear hb hb5 hx)))
  have h1 := H3.out.1.size
  have hB5 : Below W.heap.size W W5 := (H3.out.1.alloc h1 (.cells #[.int .u8 g'.kind, .int .i64 g'.num, .string g'.str, .slice BL g'.items.length dL, .slice BO g'.vals.length dO] 31)).trans (H5.out.mono (by simp; omega))
  exact panic_post rfl (.inr ⟨fun ⟨g2, hg⟩ => HS.out ((vat_one HG.out hg.1).1 ▸ hg.2.1), _, rfl, .inl rfl, hB5⟩)
set_option maxHeartbeats 8000000 in
set_option maxRecDepth 100000 in
theorem whole_nf (s : ByteArray) (W : World) (hs : s.size ≤ 60000) (hU : Tabs W) (hE : ErrsB W.heap.size W) (hT : TenB W.heap.size W) (g : GV) (hg : VAt 16 s.data.toList g []) (hsnd : g.Sound) (hfit : ¬ Fits g) : Calls Tryd.prog 25 #[.string s] W (WholeOut s W) := by
  have hb0 : Below W.heap.size W ((W.alloc (.cells #[.int .u8 0, .int .i64 0, .string ⟨#[]⟩, .slice none 0 0, .slice none 0 0] 31)).alloc (.cells #[.string s, .int .i64 0, .int .i64 0] 80)) := (below_alloc0 W _).alloc (by simp) _
  have hA0 : At ((W.alloc (.cells #[.int .u8 0, .int .i64 0, .string ⟨#[]⟩, .slice none 0 0, .slice none 0 0] 31)).alloc (.cells #[.string s, .int .i64 0, .int .i64 0] 80)) (W.heap.size + 1) s 0 0 := ⟨by simpa using Whole.new (W.alloc (.cells #[.int .u8 0, .int .i64 0, .string ⟨#[]⟩, .slice none 0 0, .slice none 0 0] 31)) 80 #[.string s, .int .i64 0, .int .i64 0], Nat.zero_le _, hs⟩
  have HV := Lib.hid (r_value 16 (W.heap.size + 1) W.heap.size s 0 0 _ hA0 rfl (by omega) (hE.later hb0) (hT.later hb0))
  have HB0 := Lib.hid hb0
  have HU := Lib.hid hU
  have HG := Lib.hid hg
  have hw : g.weight ≤ 60000 := by
    have h1 := weight_enc g hg.1
    have h2 := congrArg List.length hg.2.2.1
    simp at h2
    omega
  have HW := Lib.hid hw
  have HS := Lib.hid hsnd
  have HF := Lib.hid hfit
  clear hg hw hsnd hfit
  clear hb0 hA0 hs hU hE hT
  go_enter Tryd.func25, Tryd.ntmps25
  go_wp2_with (first
    | (go_at_call 42; refine HV.out.mono ?_; rintro e W3 (⟨g', j, v, hv, rfl, ⟨L, O, rfl, hL, hO⟩, hA, hR⟩ | ⟨hn, v, rfl, hv, hR⟩); rotate_left; exact panic_post rfl (.inr ⟨fun ⟨g, hg⟩ => hn ⟨g, [], by rw [rest0]; exact hg.1⟩, _, rfl, hv, HB0.out.trans (hR.below (by omega) (by simp; omega))⟩); obtain ⟨e1, e2⟩ := vat_all hv hA.le HG.out; subst e1; subst e2; obtain ⟨BL, dL, rfl⟩ := lst_form hL; obtain ⟨BO, dO, rfl⟩ := obj_form hO; have hj : ((s.size : Int) == (s.size : Int)) = true := (by simp); have hL := hL.keep (ok' := fun k => W.heap.size + 2 ≤ k) (From.refl _ _) (fun k hk _ => (by simpa using hk)); have hO := hO.keep (ok' := fun k => W.heap.size + 2 ≤ k) (From.refl _ _) (fun k hk _ => (by simpa using hk)); obtain ⟨c0, c1, c2, f0, f1, f2⟩ := hA.cells; have d1 := fun o => cell_alloc o c1; have hres := hR.whole ((Whole.new W 31 #[.int .u8 0, .int .i64 0, .string ⟨#[]⟩, .slice none 0 0, .slice none 0 0]).alloc (.cells #[.string s, .int .i64 0, .int .i64 0] 80)) (by omega); have H3 := Lib.hid (And.intro (HB0.out.trans (hR.below (by omega) (by simp; omega))) (And.intro hL (And.intro hO hres))); clear hv hL hO hA hR hres)
    | (go_at_call 24; (with_reducible refine (need_ok _ _).mono ?_); rintro e W4 ⟨rfl, rfl⟩)
    | (go_at_call 24; (with_reducible refine (need_bad _ _).mono ?_); rintro e W4 ⟨rfl, rfl⟩)
    | (go_at_call 19; go_loud (refine (val_Sound (fun k => W3.heap.size > k ∧ W.heap.size + 2 ≤ k) _ g' _ (wh_val H3.out.2.1 H3.out.2.2.1) (by have := HW.out; omega) (HU.out.below (H3.out.1.alloc (by have := H3.out.1.size; omega) _) (Nat.le_refl _))).mono ?_; rintro e W5 ⟨b, rfl, hb, hb5⟩; have eb : b = true := (hb.2 HS.out); subst eb; have hx := (Whole.new W3 _ _).below hb5 (by simp); obtain ⟨b0, b1, b2, b3, b4, _⟩ := hx.five; have H5 := Lib.hid hb5; clear hb hb5 hx))
    | (go_at_call 20; refine (j_fits (fun k => W3.heap.size > k ∧ W.heap.size + 2 ≤ k) g' BL BO dL dO W5 ((wh_L H3.out.2.1).keep (From.of_below H5.out) (fun _ h _ => h)) ((wh_O H3.out.2.2.1).keep (From.of_below H5.out) (fun _ h _ => h)) (by have := HW.out; omega)).mono ?_; rintro e W6 ⟨c, rfl, hc, hb6⟩; have ec : c = false := (by cases c; rfl; exact absurd (hc.1 rfl) HF.out); subst ec; have hx := ((Whole.new W3 _ _).below H5.out (by simp)).below hb6 (by have := H5.out.size; simp at this; omega); obtain ⟨x0, x1, x2, x3, x4, _⟩ := hx.five; have hr := ((H3.out.2.2.2.alloc _).below H5.out (by have := H3.out.2.2.2.lt; simp; omega)).below hb6 (by have := H3.out.2.2.2.lt; have := H5.out.size; simp at this; omega); obtain ⟨y0, y1, y2, y3, y4, z0, z1, z2, z3, z4⟩ := hr.five; have H6 := Lib.hid (And.intro hb6 hr); clear hc hb6 hx hr))
  have h1 := H3.out.1.size
  have hB5 : Below W.heap.size W W5 := (H3.out.1.alloc h1 (.cells #[.int .u8 g'.kind, .int .i64 g'.num, .string g'.str, .slice BL g'.items.length dL, .slice BO g'.vals.length dO] 31)).trans (H5.out.mono (by simp; omega))
  have h5 := hB5.size
  have hB6 : Below W.heap.size W W6 := hB5.trans (H6.out.1.mono h5)
  exact panic_post rfl (.inr ⟨fun ⟨g2, hg⟩ => HF.out ((vat_one HG.out hg.1).1 ▸ hg.2.2), _, rfl, .inl rfl, hB6⟩)
set_option maxHeartbeats 8000000 in
set_option maxRecDepth 100000 in
theorem whole_sf (s : ByteArray) (W : World) (hs : s.size ≤ 60000) (hU : Tabs W) (hE : ErrsB W.heap.size W) (hT : TenB W.heap.size W) (g : GV) (hg : VAt 16 s.data.toList g []) (hsnd : g.Sound) (hfit : Fits g) : Calls Tryd.prog 25 #[.string s] W (WholeOut s W) := by
  have hb0 : Below W.heap.size W ((W.alloc (.cells #[.int .u8 0, .int .i64 0, .string ⟨#[]⟩, .slice none 0 0, .slice none 0 0] 31)).alloc (.cells #[.string s, .int .i64 0, .int .i64 0] 80)) := (below_alloc0 W _).alloc (by simp) _
  have hA0 : At ((W.alloc (.cells #[.int .u8 0, .int .i64 0, .string ⟨#[]⟩, .slice none 0 0, .slice none 0 0] 31)).alloc (.cells #[.string s, .int .i64 0, .int .i64 0] 80)) (W.heap.size + 1) s 0 0 := ⟨by simpa using Whole.new (W.alloc (.cells #[.int .u8 0, .int .i64 0, .string ⟨#[]⟩, .slice none 0 0, .slice none 0 0] 31)) 80 #[.string s, .int .i64 0, .int .i64 0], Nat.zero_le _, hs⟩
  have HV := Lib.hid (r_value 16 (W.heap.size + 1) W.heap.size s 0 0 _ hA0 rfl (by omega) (hE.later hb0) (hT.later hb0))
  have HB0 := Lib.hid hb0
  have HU := Lib.hid hU
  have HG := Lib.hid hg
  have hw : g.weight ≤ 60000 := by
    have h1 := weight_enc g hg.1
    have h2 := congrArg List.length hg.2.2.1
    simp at h2
    omega
  have HW := Lib.hid hw
  have HS := Lib.hid hsnd
  have HF := Lib.hid hfit
  clear hg hw hsnd hfit
  clear hb0 hA0 hs hU hE hT
  go_enter Tryd.func25, Tryd.ntmps25
  go_wp2_with (first
    | (go_at_call 42; refine HV.out.mono ?_; rintro e W3 (⟨g', j, v, hv, rfl, ⟨L, O, rfl, hL, hO⟩, hA, hR⟩ | ⟨hn, v, rfl, hv, hR⟩); rotate_left; exact panic_post rfl (.inr ⟨fun ⟨g, hg⟩ => hn ⟨g, [], by rw [rest0]; exact hg.1⟩, _, rfl, hv, HB0.out.trans (hR.below (by omega) (by simp; omega))⟩); obtain ⟨e1, e2⟩ := vat_all hv hA.le HG.out; subst e1; subst e2; obtain ⟨BL, dL, rfl⟩ := lst_form hL; obtain ⟨BO, dO, rfl⟩ := obj_form hO; have hj : ((s.size : Int) == (s.size : Int)) = true := (by simp); have hL := hL.keep (ok' := fun k => W.heap.size + 2 ≤ k) (From.refl _ _) (fun k hk _ => (by simpa using hk)); have hO := hO.keep (ok' := fun k => W.heap.size + 2 ≤ k) (From.refl _ _) (fun k hk _ => (by simpa using hk)); obtain ⟨c0, c1, c2, f0, f1, f2⟩ := hA.cells; have d1 := fun o => cell_alloc o c1; have hres := hR.whole ((Whole.new W 31 #[.int .u8 0, .int .i64 0, .string ⟨#[]⟩, .slice none 0 0, .slice none 0 0]).alloc (.cells #[.string s, .int .i64 0, .int .i64 0] 80)) (by omega); have H3 := Lib.hid (And.intro (HB0.out.trans (hR.below (by omega) (by simp; omega))) (And.intro hL (And.intro hO hres))); clear hv hL hO hA hR hres)
    | (go_at_call 24; (with_reducible refine (need_ok _ _).mono ?_); rintro e W4 ⟨rfl, rfl⟩)
    | (go_at_call 24; (with_reducible refine (need_bad _ _).mono ?_); rintro e W4 ⟨rfl, rfl⟩)
    | (go_at_call 19; go_loud (refine (val_Sound (fun k => W3.heap.size > k ∧ W.heap.size + 2 ≤ k) _ g' _ (wh_val H3.out.2.1 H3.out.2.2.1) (by have := HW.out; omega) (HU.out.below (H3.out.1.alloc (by have := H3.out.1.size; omega) _) (Nat.le_refl _))).mono ?_; rintro e W5 ⟨b, rfl, hb, hb5⟩; have eb : b = true := (hb.2 HS.out); subst eb; have hx := (Whole.new W3 _ _).below hb5 (by simp); obtain ⟨b0, b1, b2, b3, b4, _⟩ := hx.five; have H5 := Lib.hid hb5; clear hb hb5 hx))
    | (go_at_call 20; refine (j_fits (fun k => W3.heap.size > k ∧ W.heap.size + 2 ≤ k) g' BL BO dL dO W5 ((wh_L H3.out.2.1).keep (From.of_below H5.out) (fun _ h _ => h)) ((wh_O H3.out.2.2.1).keep (From.of_below H5.out) (fun _ h _ => h)) (by have := HW.out; omega)).mono ?_; rintro e W6 ⟨c, rfl, hc, hb6⟩; have ec : c = true := (hc.2 HF.out); subst ec; have hx := ((Whole.new W3 _ _).below H5.out (by simp)).below hb6 (by have := H5.out.size; simp at this; omega); obtain ⟨x0, x1, x2, x3, x4, _⟩ := hx.five; have hr := ((H3.out.2.2.2.alloc _).below H5.out (by have := H3.out.2.2.2.lt; simp; omega)).below hb6 (by have := H3.out.2.2.2.lt; have := H5.out.size; simp at this; omega); obtain ⟨y0, y1, y2, y3, y4, z0, z1, z2, z3, z4⟩ := hr.five; have H6 := Lib.hid (And.intro hb6 hr); clear hc hb6 hx hr))
  obtain ⟨d0, d1, d2, d3, d4, _⟩ := (whole_put5' H6.out.2 (.int .u8 g'.kind) (.int .i64 g'.num) (.string g'.str) (.slice BL g'.items.length dL) (.slice BO g'.vals.length dO)).five
  unfold put5 at d0 d1 d2 d3 d4
  refine bodyPost_ret (v := .agg #[.int .u8 g'.kind, .int .i64 g'.num, .string g'.str, .slice BL g'.items.length dL, .slice BO g'.vals.length dO]) (by simp [results, Tryd.results25, go_sem, d0, d1, d2, d3, d4]) rfl ?_
  have h1 := H3.out.1.size
  have hB5 : Below W.heap.size W W5 := (H3.out.1.alloc h1 (.cells #[.int .u8 g'.kind, .int .i64 g'.num, .string g'.str, .slice BL g'.items.length dL, .slice BO g'.vals.length dO] 31)).trans (H5.out.mono (by simp; omega))
  have h5 := hB5.size
  have hB6 : Below W.heap.size W W6 := hB5.trans (H6.out.1.mono h5)
  have hP : ∃ W7, W7 = put5 W6 W.heap.size (.int .u8 g'.kind) (.int .i64 g'.num) (.string g'.str) (.slice BL g'.items.length dL) (.slice BO g'.vals.length dO) := ⟨_, rfl⟩
  obtain ⟨W7, hP⟩ := hP
  have hF7 : From (fun k => W.heap.size + 2 ≤ k) W6 W7 := fun k hk _ => by rw [hP]; exact put5_block _ _ _ _ _ _ _ _ (by omega)
  have hB7 : Below W.heap.size W W7 := by rw [hP]; exact Below.put5 hB6 (Nat.le_refl _) _ _ _ _ _
  have hF6 : From (fun k => W.heap.size + 2 ≤ k) W3 W6 := fun k _ hl => (H6.out.1.block k (by have := H5.out.size; simp at this; omega)).trans ((H5.out.block k (by simp; omega)).trans (Below.heap_alloc W3 _ k hl))
  have hL7 := (H3.out.2.1.keep hF6 fun k hk _ => hk).keep (ok' := fun k => W.heap.size ≤ k) hF7 fun k hk _ => by omega
  have hO7 := (H3.out.2.2.1.keep hF6 fun k hk _ => hk).keep (ok' := fun k => W.heap.size ≤ k) hF7 fun k hk _ => by omega
  unfold put5 at hP
  rw [← hP]
  exact .inl ⟨g', _, ⟨HG.out, HS.out, HF.out⟩, rfl, ⟨_, _, rfl, hL7, hO7⟩, hB7⟩
theorem r_whole (s : ByteArray) (W : World) (hs : s.size ≤ 60000) (hU : Tabs W) (hE : ErrsB W.heap.size W) (hT : TenB W.heap.size W) : Calls Tryd.prog 25 #[.string s] W (WholeOut s W) := by
  rcases Classical.em (∃ g, VAt 16 s.data.toList g []) with ⟨g, hg⟩ | hn
  · rcases Classical.em g.Sound with h1 | h1
    · rcases Classical.em (Fits g) with h2 | h2
      · exact whole_sf s W hs hU hE hT g hg h1 h2
      · exact whole_nf s W hs hU hE hT g hg h1 h2
    · exact whole_ns s W hs hU hE hT g hg h1
  · exact whole_no s W hs hU hE hT hn
end Go.Proofs.YtmmjkhkcffgeiaaDoor
