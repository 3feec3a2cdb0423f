/- Texts in one: RdW, RdX, Dec. -/
import Derived.Test.YtmmjkhkcffgeiaaDoorRdV
import Derived.Test.YtmmjkhkcffgeiaaDoorEnc
import Derived.Defers
import Derived.Recover
import Derived.Laws.Pointers
/- json's reader: the value of a whole text. -/
namespace Go.Proofs.YtmmjkhkcffgeiaaDoor
open Go Go.RowKit Go.Shelf
set_option linter.unusedVariables false
set_option linter.unusedSimpArgs false

theorem encL_ge : ∀ (t : List UInt8), t.length ≤ (encL t).length
  | [] => by simp
  | c :: t => by
    have := encL_ge t
    rw [encL_cons, List.length_append, List.length_cons]
    have hc : 1 ≤ (encLetter c).length := by unfold encLetter; split <;> (try split) <;> simp
    omega
mutual
/-- A value weighs no more than its text is long. -/
theorem weight_enc : ∀ (g : GV), g.RS → g.weight ≤ g.enc.length
  | .mk k n s l ks ov, hg => by
    simp only [GV.RS] at hg
    obtain ⟨⟨h1, h2, h3, h4, h5, h6⟩, hl, ho⟩ := hg
    have e1 := weights_enc l true hl
    have e2 := weights_encFs ov ks true ho h6
    have e3 := encL_ge s.data.toList
    have e4 : s.data.toList.length = s.size := by simp
    rw [GV.weight]
    have k0 : ov = [] → ks = [] := fun e => by subst e; exact List.length_eq_zero_iff.1 h6
    have hz : (⟨#[]⟩ : ByteArray).size = 0 := rfl
    have w0 : GV.weights ([] : List GV) = 0 := by simp [GV.weights]
    rcases h1 with rfl | rfl | rfl | rfl | rfl | rfl
    · simp at h3 h4 h5; have := k0 h5; subst h3 h4 h5 this; rw [enc_0, hz, w0]; decide
    · simp at h3 h4 h5; have := k0 h5; subst h3 h4 h5 this; rw [enc_1, hz, w0]; split <;> decide
    · simp at h3 h4 h5; have := k0 h5; subst h3 h4 h5 this; rw [enc_2, hz, w0]
      have : 1 ≤ (Lib.itoa n).length := by obtain ⟨c, t, h, _⟩ := itoa_head n; rw [h]; simp
      simpa using this
    · simp at h4 h5; have := k0 h5; subst h4 h5 this; rw [enc_3, w0]
      simp only [encText, List.length_cons, List.length_append, List.length_nil, List.map_nil, List.sum_nil]
      omega
    · simp at h3 h5; have := k0 h5; subst h3 h5 this; rw [enc_4, hz, w0]
      simp only [List.length_cons, List.length_append, List.length_nil, List.map_nil, List.sum_nil]
      omega
    · simp at h3 h4; subst h3 h4; rw [enc_5, hz, w0]
      simp only [List.length_cons, List.length_append, List.length_nil]
      omega
theorem weights_enc : ∀ (l : List GV) (b : Bool), GV.RSs l → GV.weights l ≤ (GV.encs b l).length
  | [], b, _ => by simp [encs_nil, GV.weights]
  | g :: r, b, h => by
    simp only [GV.RSs] at h
    have h1 := weight_enc g h.1
    have h2 := weights_enc r false h.2
    rw [encs_cons, GV.weights, List.length_append, List.length_append]
    omega
theorem weights_encFs : ∀ (l : List GV) (ks : List ByteArray) (b : Bool), GV.RSs l → ks.length = l.length → (ks.map (·.size)).sum + GV.weights l ≤ (GV.encFs b ks l).length
  | [], ks, b, _, hk => by have := List.length_eq_zero_iff.1 hk; subst this; simp [encFs_nil, GV.weights]
  | g :: r, [], b, _, hk => by simp at hk
  | g :: r, k :: ks, b, h, hk => by
    simp only [GV.RSs] at h
    have h1 := weight_enc g h.1
    have h2 := weights_encFs r ks false h.2 (by simpa using hk)
    have h3 := encL_ge k.data.toList
    have h4 : k.data.toList.length = k.size := by simp
    rw [encFs_cons, GV.weights]
    simp only [encText, List.length_append, List.length_cons, List.length_nil, List.map_cons, List.sum_cons]
    omega
end
/-- The value that a text is. -/
def Is (s : ByteArray) (g : GV) : Prop := VAt 16 s.data.toList g [] ∧ g.Sound ∧ Fits g
theorem Is.one {s : ByteArray} {g g' : GV} (h : Is s g) (h' : Is s g') : g = g' := (vat_one h.1 h'.1).1
/-- How whole ends. -/
def WholeOut (s : ByteArray) (w : World) (e : Ending) (w' : World) : Prop :=
  (∃ (g : GV) (v : Value), Is s g ∧ e = .returned v ∧ g.val (fun k => w.heap.size ≤ k) w' v ∧ Below w.heap.size w w') ∨ ((¬ ∃ g, Is s g) ∧ ∃ v, e = .panicked [{ v := v, recovered := false }] ∧ BadV v ∧ Below w.heap.size w w')
theorem rest0 (s : ByteArray) : rest s 0 = s.data.toList := by unfold rest; simp
theorem vat_all {s : ByteArray} {g g' : GV} {j : Nat} (h : VAt 16 (rest s 0) g (rest s j)) (hj : j ≤ s.size) (h' : VAt 16 s.data.toList g' []) : g = g' ∧ j = s.size := by
  rw [rest0] at h
  obtain ⟨h1, h2⟩ := vat_one h h'
  refine ⟨h1, ?_⟩
  have := congrArg List.length h2
  rw [rest_length] at this
  simp at this
  omega
set_option maxHeartbeats 8000000 in
set_option maxRecDepth 100000 in
theorem whole_no (s : ByteArray) (W : World) (hs : s.size ≤ 60000) (hU : Tabs W) (hE : ErrsB W.heap.size W) (hT : TenB W.heap.size W) (hno : ¬ ∃ g, VAt 16 s.data.toList g []) : Calls Tryd.prog 25 #[.string s] W (WholeOut s W) := by
  have hb0 : Below W.heap.size W ((W.alloc (.cells #[.int .u8 0, .int .i64 0, .string ⟨#[]⟩, .slice none 0 0, .slice none 0 0] 31)).alloc (.cells #[.string s, .int .i64 0, .int .i64 0] 80)) := (below_alloc0 W _).alloc (by simp) _
  have hA0 : At ((W.alloc (.cells #[.int .u8 0, .int .i64 0, .string ⟨#[]⟩, .slice none 0 0, .slice none 0 0] 31)).alloc (.cells #[.string s, .int .i64 0, .int .i64 0] 80)) (W.heap.size + 1) s 0 0 := ⟨by simpa using Whole.new (W.alloc (.cells #[.int .u8 0, .int .i64 0, .string ⟨#[]⟩, .slice none 0 0, .slice none 0 0] 31)) 80 #[.string s, .int .i64 0, .int .i64 0], Nat.zero_le _, hs⟩
  have HV := Lib.hid (r_value 16 (W.heap.size + 1) W.heap.size s 0 0 _ hA0 rfl (by omega) (hE.later hb0) (hT.later hb0))
  have HB0 := Lib.hid hb0
  have HU := Lib.hid hU
  have HN := Lib.hid hno
  clear hno
  clear hb0 hA0 hs hU hE hT
  go_enter Tryd.func25, Tryd.ntmps25
  go_wp2_with (first
    | (go_at_call 42; refine HV.out.mono ?_; rintro e W3 (⟨g, j, v, hv, rfl, ⟨L, O, rfl, hL, hO⟩, hA, hR⟩ | ⟨hn, v, rfl, hv, hR⟩); rotate_left; exact panic_post rfl (.inr ⟨fun ⟨g, hg⟩ => hn ⟨g, [], by rw [rest0]; exact hg.1⟩, _, rfl, hv, HB0.out.trans (hR.below (by omega) (by simp; omega))⟩); obtain ⟨BL, dL, rfl⟩ := lst_form hL; obtain ⟨BO, dO, rfl⟩ := obj_form hO; have hj : ((j : Int) == (s.size : Int)) = false := (by simp only [beq_eq_false_iff_ne, ne_eq]; intro e; have e2 : j = s.size := (by omega); subst e2; rw [rest_end, rest0] at hv; exact HN.out ⟨g, hv⟩); obtain ⟨c0, c1, c2, f0, f1, f2⟩ := hA.cells; have d1 := fun o => cell_alloc o c1; have H3 := Lib.hid (HB0.out.trans (hR.below (by omega) (by simp; omega))); clear hv hL hO hA hR)
    | (go_at_call 24; refine (need_bad _ _).mono ?_; rintro e W4 ⟨rfl, rfl⟩))
  exact panic_post rfl (.inr ⟨fun ⟨g, hg⟩ => HN.out ⟨g, hg.1⟩, _, rfl, .inl rfl, (H3.out.alloc (by have := H3.out.size; omega) _)⟩)
theorem Below.put5 {W W2 : World} {B X : Nat} (h : Below B W W2) (hX : B ≤ X) (a0 a1 a2 a3 a4 : Value) : Below B W (put5 W2 X a0 a1 a2 a3 a4) :=
  ((((h.setCell hX _).setCell hX _).setCell hX _).setCell hX _).setCell hX _
theorem wh_L {W3 : World} {B : Nat} {o : Obj} {L : Value} {l : List GV} (h : LstV (fun k => B ≤ k) W3 L l) : LstV (fun k => W3.heap.size > k ∧ B ≤ k) (W3.alloc o) L l := h.keep (fun k _ hk => Below.heap_alloc W3 o k hk) fun k hk hl => ⟨hl, hk⟩
theorem wh_O {W3 : World} {B : Nat} {o : Obj} {O : Value} {ks : List ByteArray} {ov : List GV} (h : ObjV (fun k => B ≤ k) W3 O ks ov) : ObjV (fun k => W3.heap.size > k ∧ B ≤ k) (W3.alloc o) O ks ov := h.keep (fun k _ hk => Below.heap_alloc W3 o k hk) fun k hk hl => ⟨hl, hk⟩
theorem wh_val {W3 : World} {B : Nat} {o : Obj} {g : GV} {L O : Value} (hL : LstV (fun k => B ≤ k) W3 L g.items) (hO : ObjV (fun k => B ≤ k) W3 O g.keys g.vals) : g.val (fun k => W3.heap.size > k ∧ B ≤ k) (W3.alloc o) (.agg #[.int .u8 g.kind, .int .i64 g.num, .string g.str, L, O]) := ⟨L, O, rfl, wh_L hL, wh_O hO⟩
set_option maxHeartbeats 8000000 in
set_option maxRecDepth 100000 in
theorem whole_ns (s : ByteArray) (W : World) (hs : s.size ≤ 60000) (hU : Tabs W) (hE : ErrsB W.heap.size W) (hT : TenB W.heap.size W) (g : GV) (hg : VAt 16 s.data.toList g []) (hsnd : ¬ g.Sound) : Calls Tryd.prog 25 #[.string s] W (WholeOut s W) := by
  have hb0 : Below W.heap.size W ((W.alloc (.cells #[.int .u8 0, .int .i64 0, .string ⟨#[]⟩, .slice none 0 0, .slice none 0 0] 31)).alloc (.cells #[.string s, .int .i64 0, .int .i64 0] 80)) := (below_alloc0 W _).alloc (by simp) _
  have hA0 : At ((W.alloc (.cells #[.int .u8 0, .int .i64 0, .string ⟨#[]⟩, .slice none 0 0, .slice none 0 0] 31)).alloc (.cells #[.string s, .int .i64 0, .int .i64 0] 80)) (W.heap.size + 1) s 0 0 := ⟨by simpa using Whole.new (W.alloc (.cells #[.int .u8 0, .int .i64 0, .string ⟨#[]⟩, .slice none 0 0, .slice none 0 0] 31)) 80 #[.string s, .int .i64 0, .int .i64 0], Nat.zero_le _, hs⟩
  have HV := Lib.hid (r_value 16 (W.heap.size + 1) W.heap.size s 0 0 _ hA0 rfl (by omega) (hE.later hb0) (hT.later hb0))
  have HB0 := Lib.hid hb0
  have HU := Lib.hid hU
  have HG := Lib.hid hg
  have hw : g.weight ≤ 60000 := by
    have h1 := weight_enc g hg.1
    have h2 := congrArg List.length hg.2.2.1
    simp at h2
    omega
  have HW := Lib.hid hw
  have HS := Lib.hid hsnd
  clear hg hw hsnd
  clear hb0 hA0 hs hU hE hT
  go_enter Tryd.func25, Tryd.ntmps25
  go_wp2_with (first
    | (go_at_call 42; refine HV.out.mono ?_; rintro e W3 (⟨g', j, v, hv, rfl, ⟨L, O, rfl, hL, hO⟩, hA, hR⟩ | ⟨hn, v, rfl, hv, hR⟩); rotate_left; exact panic_post rfl (.inr ⟨fun ⟨g, hg⟩ => hn ⟨g, [], by rw [rest0]; exact hg.1⟩, _, rfl, hv, HB0.out.trans (hR.below (by omega) (by simp; omega))⟩); obtain ⟨e1, e2⟩ := vat_all hv hA.le HG.out; subst e1; subst e2; obtain ⟨BL, dL, rfl⟩ := lst_form hL; obtain ⟨BO, dO, rfl⟩ := obj_form hO; have hj : ((s.size : Int) == (s.size : Int)) = true := (by simp); have hL := hL.keep (ok' := fun k => W.heap.size + 2 ≤ k) (From.refl _ _) (fun k hk _ => (by simpa using hk)); have hO := hO.keep (ok' := fun k => W.heap.size + 2 ≤ k) (From.refl _ _) (fun k hk _ => (by simpa using hk)); obtain ⟨c0, c1, c2, f0, f1, f2⟩ := hA.cells; have d1 := fun o => cell_alloc o c1; have hres := hR.whole ((Whole.new W 31 #[.int .u8 0, .int .i64 0, .string ⟨#[]⟩, .slice none 0 0, .slice none 0 0]).alloc (.cells #[.string s, .int .i64 0, .int .i64 0] 80)) (by omega); have H3 := Lib.hid (And.intro (HB0.out.trans (hR.below (by omega) (by simp; omega))) (And.intro hL (And.intro hO hres))); clear hv hL hO hA hR hres)
    | (go_at_call 24; (with_reducible refine (need_ok _ _).mono ?_); rintro e W4 ⟨rfl, rfl⟩)
    | (go_at_call 24; (with_reducible refine (need_bad _ _).mono ?_); rintro e W4 ⟨rfl, rfl⟩)
    | (go_at_call 19; go_loud (refine (val_Sound (fun k => W3.heap.size > k ∧ W.heap.size + 2 ≤ k) _ g' _ (wh_val H3.out.2.1 H3.out.2.2.1) (by have := HW.out; omega) (HU.out.below (H3.out.1.alloc (by have := H3.out.1.size; omega) _) (Nat.le_refl _))).mono ?_; rintro e W5 ⟨b, rfl, hb, hb5⟩; have eb : b = false := (by cases b; rfl; exact absurd (hb.1 rfl) HS.out); subst eb; have hx := (Whole.new W3 _ _).below hb5 (by simp); obtain ⟨b0, b1, b2, b3, b4, _⟩ := hx.five; have H5 := Lib.hid hb5; clear hb hb5 hx)))
  have h1 := H3.out.1.size
  have hB5 : Below W.heap.size W W5 := (H3.out.1.alloc h1 (.cells #[.int .u8 g'.kind, .int .i64 g'.num, .string g'.str, .slice BL g'.items.length dL, .slice BO g'.vals.length dO] 31)).trans (H5.out.mono (by simp; omega))
  exact panic_post rfl (.inr ⟨fun ⟨g2, hg⟩ => HS.out ((vat_one HG.out hg.1).1 ▸ hg.2.1), _, rfl, .inl rfl, hB5⟩)
set_option maxHeartbeats 8000000 in
set_option maxRecDepth 100000 in
theorem whole_nf (s : ByteArray) (W : World) (hs : s.size ≤ 60000) (hU : Tabs W) (hE : ErrsB W.heap.size W) (hT : TenB W.heap.size W) (g : GV) (hg : VAt 16 s.data.toList g []) (hsnd : g.Sound) (hfit : ¬ Fits g) : Calls Tryd.prog 25 #[.string s] W (WholeOut s W) := by
  have hb0 : Below W.heap.size W ((W.alloc (.cells #[.int .u8 0, .int .i64 0, .string ⟨#[]⟩, .slice none 0 0, .slice none 0 0] 31)).alloc (.cells #[.string s, .int .i64 0, .int .i64 0] 80)) := (below_alloc0 W _).alloc (by simp) _
  have hA0 : At ((W.alloc (.cells #[.int .u8 0, .int .i64 0, .string ⟨#[]⟩, .slice none 0 0, .slice none 0 0] 31)).alloc (.cells #[.string s, .int .i64 0, .int .i64 0] 80)) (W.heap.size + 1) s 0 0 := ⟨by simpa using Whole.new (W.alloc (.cells #[.int .u8 0, .int .i64 0, .string ⟨#[]⟩, .slice none 0 0, .slice none 0 0] 31)) 80 #[.string s, .int .i64 0, .int .i64 0], Nat.zero_le _, hs⟩
  have HV := Lib.hid (r_value 16 (W.heap.size + 1) W.heap.size s 0 0 _ hA0 rfl (by omega) (hE.later hb0) (hT.later hb0))
  have HB0 := Lib.hid hb0
  have HU := Lib.hid hU
  have HG := Lib.hid hg
  have hw : g.weight ≤ 60000 := by
    have h1 := weight_enc g hg.1
    have h2 := congrArg List.length hg.2.2.1
    simp at h2
    omega
  have HW := Lib.hid hw
  have HS := Lib.hid hsnd
  have HF := Lib.hid hfit
  clear hg hw hsnd hfit
  clear hb0 hA0 hs hU hE hT
  go_enter Tryd.func25, Tryd.ntmps25
  go_wp2_with (first
    | (go_at_call 42; refine HV.out.mono ?_; rintro e W3 (⟨g', j, v, hv, rfl, ⟨L, O, rfl, hL, hO⟩, hA, hR⟩ | ⟨hn, v, rfl, hv, hR⟩); rotate_left; exact panic_post rfl (.inr ⟨fun ⟨g, hg⟩ => hn ⟨g, [], by rw [rest0]; exact hg.1⟩, _, rfl, hv, HB0.out.trans (hR.below (by omega) (by simp; omega))⟩); obtain ⟨e1, e2⟩ := vat_all hv hA.le HG.out; subst e1; subst e2; obtain ⟨BL, dL, rfl⟩ := lst_form hL; obtain ⟨BO, dO, rfl⟩ := obj_form hO; have hj : ((s.size : Int) == (s.size : Int)) = true := (by simp); have hL := hL.keep (ok' := fun k => W.heap.size + 2 ≤ k) (From.refl _ _) (fun k hk _ => (by simpa using hk)); have hO := hO.keep (ok' := fun k => W.heap.size + 2 ≤ k) (From.refl _ _) (fun k hk _ => (by simpa using hk)); obtain ⟨c0, c1, c2, f0, f1, f2⟩ := hA.cells; have d1 := fun o => cell_alloc o c1; have hres := hR.whole ((Whole.new W 31 #[.int .u8 0, .int .i64 0, .string ⟨#[]⟩, .slice none 0 0, .slice none 0 0]).alloc (.cells #[.string s, .int .i64 0, .int .i64 0] 80)) (by omega); have H3 := Lib.hid (And.intro (HB0.out.trans (hR.below (by omega) (by simp; omega))) (And.intro hL (And.intro hO hres))); clear hv hL hO hA hR hres)
    | (go_at_call 24; (with_reducible refine (need_ok _ _).mono ?_); rintro e W4 ⟨rfl, rfl⟩)
    | (go_at_call 24; (with_reducible refine (need_bad _ _).mono ?_); rintro e W4 ⟨rfl, rfl⟩)
    | (go_at_call 19; go_loud (refine (val_Sound (fun k => W3.heap.size > k ∧ W.heap.size + 2 ≤ k) _ g' _ (wh_val H3.out.2.1 H3.out.2.2.1) (by have := HW.out; omega) (HU.out.below (H3.out.1.alloc (by have := H3.out.1.size; omega) _) (Nat.le_refl _))).mono ?_; rintro e W5 ⟨b, rfl, hb, hb5⟩; have eb : b = true := (hb.2 HS.out); subst eb; have hx := (Whole.new W3 _ _).below hb5 (by simp); obtain ⟨b0, b1, b2, b3, b4, _⟩ := hx.five; have H5 := Lib.hid hb5; clear hb hb5 hx))
    | (go_at_call 20; refine (j_fits (fun k => W3.heap.size > k ∧ W.heap.size + 2 ≤ k) g' BL BO dL dO W5 ((wh_L H3.out.2.1).keep (From.of_below H5.out) (fun _ h _ => h)) ((wh_O H3.out.2.2.1).keep (From.of_below H5.out) (fun _ h _ => h)) (by have := HW.out; omega)).mono ?_; rintro e W6 ⟨c, rfl, hc, hb6⟩; have ec : c = false := (by cases c; rfl; exact absurd (hc.1 rfl) HF.out); subst ec; have hx := ((Whole.new W3 _ _).below H5.out (by simp)).below hb6 (by have := H5.out.size; simp at this; omega); obtain ⟨x0, x1, x2, x3, x4, _⟩ := hx.five; have hr := ((H3.out.2.2.2.alloc _).below H5.out (by have := H3.out.2.2.2.lt; simp; omega)).below hb6 (by have := H3.out.2.2.2.lt; have := H5.out.size; simp at this; omega); obtain ⟨y0, y1, y2, y3, y4, z0, z1, z2, z3, z4⟩ := hr.five; have H6 := Lib.hid (And.intro hb6 hr); clear hc hb6 hx hr))
  have h1 := H3.out.1.size
  have hB5 : Below W.heap.size W W5 := (H3.out.1.alloc h1 (.cells #[.int .u8 g'.kind, .int .i64 g'.num, .string g'.str, .slice BL g'.items.length dL, .slice BO g'.vals.length dO] 31)).trans (H5.out.mono (by simp; omega))
  have h5 := hB5.size
  have hB6 : Below W.heap.size W W6 := hB5.trans (H6.out.1.mono h5)
  exact panic_post rfl (.inr ⟨fun ⟨g2, hg⟩ => HF.out ((vat_one HG.out hg.1).1 ▸ hg.2.2), _, rfl, .inl rfl, hB6⟩)
set_option maxHeartbeats 8000000 in
set_option maxRecDepth 100000 in
theorem whole_sf (s : ByteArray) (W : World) (hs : s.size ≤ 60000) (hU : Tabs W) (hE : ErrsB W.heap.size W) (hT : TenB W.heap.size W) (g : GV) (hg : VAt 16 s.data.toList g []) (hsnd : g.Sound) (hfit : Fits g) : Calls Tryd.prog 25 #[.string s] W (WholeOut s W) := by
  have hb0 : Below W.heap.size W ((W.alloc (.cells #[.int .u8 0, .int .i64 0, .string ⟨#[]⟩, .slice none 0 0, .slice none 0 0] 31)).alloc (.cells #[.string s, .int .i64 0, .int .i64 0] 80)) := (below_alloc0 W _).alloc (by simp) _
  have hA0 : At ((W.alloc (.cells #[.int .u8 0, .int .i64 0, .string ⟨#[]⟩, .slice none 0 0, .slice none 0 0] 31)).alloc (.cells #[.string s, .int .i64 0, .int .i64 0] 80)) (W.heap.size + 1) s 0 0 := ⟨by simpa using Whole.new (W.alloc (.cells #[.int .u8 0, .int .i64 0, .string ⟨#[]⟩, .slice none 0 0, .slice none 0 0] 31)) 80 #[.string s, .int .i64 0, .int .i64 0], Nat.zero_le _, hs⟩
  have HV := Lib.hid (r_value 16 (W.heap.size + 1) W.heap.size s 0 0 _ hA0 rfl (by omega) (hE.later hb0) (hT.later hb0))
  have HB0 := Lib.hid hb0
  have HU := Lib.hid hU
  have HG := Lib.hid hg
  have hw : g.weight ≤ 60000 := by
    have h1 := weight_enc g hg.1
    have h2 := congrArg List.length hg.2.2.1
    simp at h2
    omega
  have HW := Lib.hid hw
  have HS := Lib.hid hsnd
  have HF := Lib.hid hfit
  clear hg hw hsnd hfit
  clear hb0 hA0 hs hU hE hT
  go_enter Tryd.func25, Tryd.ntmps25
  go_wp2_with (first
    | (go_at_call 42; refine HV.out.mono ?_; rintro e W3 (⟨g', j, v, hv, rfl, ⟨L, O, rfl, hL, hO⟩, hA, hR⟩ | ⟨hn, v, rfl, hv, hR⟩); rotate_left; exact panic_post rfl (.inr ⟨fun ⟨g, hg⟩ => hn ⟨g, [], by rw [rest0]; exact hg.1⟩, _, rfl, hv, HB0.out.trans (hR.below (by omega) (by simp; omega))⟩); obtain ⟨e1, e2⟩ := vat_all hv hA.le HG.out; subst e1; subst e2; obtain ⟨BL, dL, rfl⟩ := lst_form hL; obtain ⟨BO, dO, rfl⟩ := obj_form hO; have hj : ((s.size : Int) == (s.size : Int)) = true := (by simp); have hL := hL.keep (ok' := fun k => W.heap.size + 2 ≤ k) (From.refl _ _) (fun k hk _ => (by simpa using hk)); have hO := hO.keep (ok' := fun k => W.heap.size + 2 ≤ k) (From.refl _ _) (fun k hk _ => (by simpa using hk)); obtain ⟨c0, c1, c2, f0, f1, f2⟩ := hA.cells; have d1 := fun o => cell_alloc o c1; have hres := hR.whole ((Whole.new W 31 #[.int .u8 0, .int .i64 0, .string ⟨#[]⟩, .slice none 0 0, .slice none 0 0]).alloc (.cells #[.string s, .int .i64 0, .int .i64 0] 80)) (by omega); have H3 := Lib.hid (And.intro (HB0.out.trans (hR.below (by omega) (by simp; omega))) (And.intro hL (And.intro hO hres))); clear hv hL hO hA hR hres)
    | (go_at_call 24; (with_reducible refine (need_ok _ _).mono ?_); rintro e W4 ⟨rfl, rfl⟩)
    | (go_at_call 24; (with_reducible refine (need_bad _ _).mono ?_); rintro e W4 ⟨rfl, rfl⟩)
    | (go_at_call 19; go_loud (refine (val_Sound (fun k => W3.heap.size > k ∧ W.heap.size + 2 ≤ k) _ g' _ (wh_val H3.out.2.1 H3.out.2.2.1) (by have := HW.out; omega) (HU.out.below (H3.out.1.alloc (by have := H3.out.1.size; omega) _) (Nat.le_refl _))).mono ?_; rintro e W5 ⟨b, rfl, hb, hb5⟩; have eb : b = true := (hb.2 HS.out); subst eb; have hx := (Whole.new W3 _ _).below hb5 (by simp); obtain ⟨b0, b1, b2, b3, b4, _⟩ := hx.five; have H5 := Lib.hid hb5; clear hb hb5 hx))
    | (go_at_call 20; refine (j_fits (fun k => W3.heap.size > k ∧ W.heap.size + 2 ≤ k) g' BL BO dL dO W5 ((wh_L H3.out.2.1).keep (From.of_below H5.out) (fun _ h _ => h)) ((wh_O H3.out.2.2.1).keep (From.of_below H5.out) (fun _ h _ => h)) (by have := HW.out; omega)).mono ?_; rintro e W6 ⟨c, rfl, hc, hb6⟩; have ec : c = true := (hc.2 HF.out); subst ec; have hx := ((Whole.new W3 _ _).below H5.out (by simp)).below hb6 (by have := H5.out.size; simp at this; omega); obtain ⟨x0, x1, x2, x3, x4, _⟩ := hx.five; have hr := ((H3.out.2.2.2.alloc _).below H5.out (by have := H3.out.2.2.2.lt; simp; omega)).below hb6 (by have := H3.out.2.2.2.lt; have := H5.out.size; simp at this; omega); obtain ⟨y0, y1, y2, y3, y4, z0, z1, z2, z3, z4⟩ := hr.five; have H6 := Lib.hid (And.intro hb6 hr); clear hc hb6 hx hr))
  obtain ⟨d0, d1, d2, d3, d4, _⟩ := (whole_put5' H6.out.2 (.int .u8 g'.kind) (.int .i64 g'.num) (.string g'.str) (.slice BL g'.items.length dL) (.slice BO g'.vals.length dO)).five
  unfold put5 at d0 d1 d2 d3 d4
  refine bodyPost_ret (v := .agg #[.int .u8 g'.kind, .int .i64 g'.num, .string g'.str, .slice BL g'.items.length dL, .slice BO g'.vals.length dO]) (by simp [results, Tryd.results25, go_sem, d0, d1, d2, d3, d4]) rfl ?_
  have h1 := H3.out.1.size
  have hB5 : Below W.heap.size W W5 := (H3.out.1.alloc h1 (.cells #[.int .u8 g'.kind, .int .i64 g'.num, .string g'.str, .slice BL g'.items.length dL, .slice BO g'.vals.length dO] 31)).trans (H5.out.mono (by simp; omega))
  have h5 := hB5.size
  have hB6 : Below W.heap.size W W6 := hB5.trans (H6.out.1.mono h5)
  have hP : ∃ W7, W7 = put5 W6 W.heap.size (.int .u8 g'.kind) (.int .i64 g'.num) (.string g'.str) (.slice BL g'.items.length dL) (.slice BO g'.vals.length dO) := ⟨_, rfl⟩
  obtain ⟨W7, hP⟩ := hP
  have hF7 : From (fun k => W.heap.size + 2 ≤ k) W6 W7 := fun k hk _ => by rw [hP]; exact put5_block _ _ _ _ _ _ _ _ (by omega)
  have hB7 : Below W.heap.size W W7 := by rw [hP]; exact Below.put5 hB6 (Nat.le_refl _) _ _ _ _ _
  have hF6 : From (fun k => W.heap.size + 2 ≤ k) W3 W6 := fun k _ hl => (H6.out.1.block k (by have := H5.out.size; simp at this; omega)).trans ((H5.out.block k (by simp; omega)).trans (Below.heap_alloc W3 _ k hl))
  have hL7 := (H3.out.2.1.keep hF6 fun k hk _ => hk).keep (ok' := fun k => W.heap.size ≤ k) hF7 fun k hk _ => by omega
  have hO7 := (H3.out.2.2.1.keep hF6 fun k hk _ => hk).keep (ok' := fun k => W.heap.size ≤ k) hF7 fun k hk _ => by omega
  unfold put5 at hP
  rw [← hP]
  exact .inl ⟨g', _, ⟨HG.out, HS.out, HF.out⟩, rfl, ⟨_, _, rfl, hL7, hO7⟩, hB7⟩
theorem r_whole (s : ByteArray) (W : World) (hs : s.size ≤ 60000) (hU : Tabs W) (hE : ErrsB W.heap.size W) (hT : TenB W.heap.size W) : Calls Tryd.prog 25 #[.string s] W (WholeOut s W) := by
  rcases Classical.em (∃ g, VAt 16 s.data.toList g []) with ⟨g, hg⟩ | hn
  · rcases Classical.em g.Sound with h1 | h1
    · rcases Classical.em (Fits g) with h2 | h2
      · exact whole_sf s W hs hU hE hT g hg h1 h2
      · exact whole_nf s W hs hU hE hT g hg h1 h2
    · exact whole_ns s W hs hU hE hT g hg h1
  · exact whole_no s W hs hU hE hT hn
end Go.Proofs.YtmmjkhkcffgeiaaDoor

/- json.Decode. -/
namespace Go.Proofs.YtmmjkhkcffgeiaaDoor
open Go Go.RowKit Go.Shelf
set_option linter.unusedVariables false
set_option linter.unusedSimpArgs false

theorem ta_errno (n : Int) (w : World) : (Instr.typeAssert (.iface 25 (.int .u16 n)) 20 25 true).run Tryd.prog w = .ok (.tuple #[.int .u16 n, .bool true]) w := by kernel_rfl
theorem ta_num0 (v : Value) (w : World) : (Instr.typeAssert (.iface 133 v) 20 25 true).run Tryd.prog w = .ok (.tuple #[.int .u16 0, .bool false]) w := by kernel_rfl
theorem ta_num (v : Value) (w : World) : (Instr.typeAssert (.iface 133 v) 20 54 true).run Tryd.prog w = .ok (.tuple #[.iface 133 v, .bool true]) w := by kernel_rfl
theorem slots13 (p v : Value) : #[p] ++ (Array.replicate 12 undef).setIfInBounds 3 v = #[p, undef, undef, undef, v, undef, undef, undef, undef, undef, undef, undef, undef] := rfl
set_option maxHeartbeats 4000000 in
set_option maxRecDepth 100000 in
theorem catch_errno (p : Addr) (x : Int) (n : Int) (older : List PanicEntry) (w : World) (hc : w.cell? p = some (.int .u16 x)) (hz : w.frozen? p = false) :
    CallsD Tryd.prog 23 #[.pointer (some p)] (.panicking ({ v := .iface 25 (.int .u16 n), recovered := false } :: older)) w fun e u' w' =>
      e = .returned (.tuple #[]) ∧ u' = .panicking ({ v := .iface 25 (.int .u16 n), recovered := true } :: older) ∧ w' = w.setCell p (.int .u16 n) := by
  refine callsD_of_wpS Tryd.func23 rfl fun c₀ cs hu => ?_
  apply wpS_seq
  apply wpS_region
  simp [wpOpsS, go_sem, recoverD, hu, Tryd.ntmps23, Exit.thenS]
  refine wpS_of_wp ?_
  rw [slots13]
  have t0 := ta_errno n
  go_wp2
  simp_all [bodyPostS, results, Tryd.results23]
set_option maxHeartbeats 4000000 in
set_option maxRecDepth 100000 in
theorem catch_num (p : Addr) (x : Int) (N : Value) (older : List PanicEntry) (w : World) (hc : w.cell? p = some (.int .u16 x)) (hz : w.frozen? p = false) :
    CallsD Tryd.prog 23 #[.pointer (some p)] (.panicking ({ v := .iface 133 N, recovered := false } :: older)) w fun e u' w' =>
      e = .returned (.tuple #[]) ∧ u' = .panicking ({ v := .iface 133 N, recovered := true } :: older) ∧ w' = w.setCell p (.int .u16 20) := by
  refine callsD_of_wpS Tryd.func23 rfl fun c₀ cs hu => ?_
  apply wpS_seq
  apply wpS_region
  simp [wpOpsS, go_sem, recoverD, hu, Tryd.ntmps23, Exit.thenS]
  refine wpS_of_wp ?_
  rw [slots13]
  have t0 := ta_num0 N
  have t1 := ta_num N
  go_wp2
  simp_all [bodyPostS, results, Tryd.results23]
set_option maxHeartbeats 4000000 in
set_option maxRecDepth 100000 in
theorem catch_none (p : Addr) (w : World) :
    CallsD Tryd.prog 23 #[.pointer (some p)] .returning w fun e u' w' => e = .returned (.tuple #[]) ∧ u' = .returning ∧ w' = w := by
  refine callsD_of_wpS Tryd.func23 rfl fun c₀ cs hu => ?_
  apply wpS_seq
  apply wpS_region
  simp [wpOpsS, go_sem, recoverD, hu, Tryd.ntmps23, Exit.thenS]
  refine wpS_of_wp ?_
  rw [slots13]
  go_wp2
  cases c₀
  simp_all [bodyPostS, results, Tryd.results23]
end Go.Proofs.YtmmjkhkcffgeiaaDoor

/- json.Decode: what it answers. -/
namespace Go.Proofs.YtmmjkhkcffgeiaaDoor
open Go Go.RowKit Go.Shelf
set_option linter.unusedVariables false
set_option linter.unusedSimpArgs false

/-- How Decode ends. -/
def DecOut (s : ByteArray) (w : World) (e : Ending) (w' : World) : Prop :=
  Below w.heap.size w w' ∧ ((60000 < s.size ∧ e = .returned (.tuple #[.agg #[.int .u8 0, .int .i64 0, .string ⟨#[]⟩, .slice none 0 0, .slice none 0 0], .int .u16 3])) ∨
    (s.size ≤ 60000 ∧ (¬ ∃ g, Is s g) ∧ e = .returned (.tuple #[.agg #[.int .u8 0, .int .i64 0, .string ⟨#[]⟩, .slice none 0 0, .slice none 0 0], .int .u16 20])) ∨
    (s.size ≤ 60000 ∧ ∃ (g : GV) (v : Value), Is s g ∧ e = .returned (.tuple #[v, .int .u16 0]) ∧ g.val (fun k => w.heap.size ≤ k) w' v))
set_option maxHeartbeats 4000000 in
set_option maxRecDepth 100000 in
theorem dec_long (s : ByteArray) (w : World) (hs : 60000 < s.size) : Calls Tryd.prog 12 #[.string s] w (DecOut s w) := by
  have hmf : ∀ (fn : Fn) (first cap : Array Value) (w : World), (Instr.makeFunc fn first cap).run Tryd.prog w = .ok (.func fn first cap) w := fun _ _ _ _ => rfl
  have h1 : decide ((s.size : Int) ≤ 60000) = false := by simp; omega
  have HS := Lib.hid hs
  clear hs
  go_enter_defers Tryd.func12, Tryd.ntmps12
  go_wp2_with (go_at_call 24; (with_reducible refine (need_bad _ _).mono ?_); rintro e W4 ⟨rfl, rfl⟩)
  refine leaves_cons (f := 23) (args := #[.pointer (some ⟨w.heap.size + 1, 0, none⟩)]) (by simp) (by simp [go_sem]) ?_
  refine (catch_errno ⟨w.heap.size + 1, 0, none⟩ 0 3 [] _ ?_ ?_).mono ?_
  · simp [go_sem]
  · simp [go_sem]
  rintro e u' w'' ⟨rfl, rfl, rfl⟩
  simp [Leaves, settle, results, Tryd.results12, go_sem]
  exact ⟨((Below.refl _ _).alloc (Nat.le_refl _) _).alloc (by simp) _, .inl ⟨HS.out, rfl⟩⟩
theorem fun_errs {W W' : World} (h : ErrsB W.heap.size W) (hb : Below W.heap.size W W') : ErrsB W'.heap.size W' := by
  obtain ⟨e5, e6, h1, h2, h3⟩ := h
  exact ⟨e5, e6, fun W2 h => h1 W2 (hb.trans (h.mono hb.size)), h2, h3⟩
theorem fun_ten {W W' : World} (h : TenB W.heap.size W) (hb : Below W.heap.size W W') : TenB W'.heap.size W' := fun _ k => h _ (hb.trans (k.mono hb.size))
set_option maxHeartbeats 4000000 in
set_option maxRecDepth 100000 in
theorem dec_no (s : ByteArray) (w : World) (hs : s.size ≤ 60000) (hU : Tabs w) (hE : ErrsB w.heap.size w) (hT : TenB w.heap.size w) (hno : ¬ ∃ g, Is s g) : Calls Tryd.prog 12 #[.string s] w (DecOut s w) := by
  have hmf : ∀ (fn : Fn) (first cap : Array Value) (w : World), (Instr.makeFunc fn first cap).run Tryd.prog w = .ok (.func fn first cap) w := fun _ _ _ _ => rfl
  have h1 : decide ((s.size : Int) ≤ 60000) = true := by simp; omega
  have hb : Below w.heap.size w ((w.alloc (.cells #[.int .u8 0, .int .i64 0, .string ⟨#[]⟩, .slice none 0 0, .slice none 0 0] 31)).alloc (.cells #[.int .u16 0] 25)) := ((Below.refl _ _).alloc (Nat.le_refl _) _).alloc (by simp) _
  have HW := Lib.hid (r_whole s ((w.alloc (.cells #[.int .u8 0, .int .i64 0, .string ⟨#[]⟩, .slice none 0 0, .slice none 0 0] 31)).alloc (.cells #[.int .u16 0] 25)) hs (hU.below hb (Nat.le_refl _)) (fun_errs hE hb) (fun_ten hT hb))
  have HB := Lib.hid (And.intro hb (And.intro hs hno))
  have hx0 := (Whole.new w 31 #[.int .u8 0, .int .i64 0, .string ⟨#[]⟩, .slice none 0 0, .slice none 0 0]).alloc (.cells #[.int .u16 0] 25)
  have hx1 : Whole ((w.alloc (.cells #[.int .u8 0, .int .i64 0, .string ⟨#[]⟩, .slice none 0 0, .slice none 0 0] 31)).alloc (.cells #[.int .u16 0] 25)) (w.heap.size + 1) 25 #[.int .u16 0] := by simpa using Whole.new (w.alloc (.cells #[.int .u8 0, .int .i64 0, .string ⟨#[]⟩, .slice none 0 0, .slice none 0 0] 31)) 25 #[.int .u16 0]
  have HX := Lib.hid (And.intro hx0 hx1)
  clear hs hU hE hT hb hx0 hx1 hno
  go_enter_defers Tryd.func12, Tryd.ntmps12
  go_wp2_with (first
    | (go_at_call 24; (with_reducible refine (need_ok _ _).mono ?_); rintro e W4 ⟨rfl, rfl⟩)
    | (go_at_call 25; refine HW.out.mono ?_; rintro e W3 (⟨g, v, hg, _⟩ | ⟨hn, v, rfl, hv, hb3⟩); exact absurd ⟨g, hg⟩ HB.out.2.2; have hy0 := HX.out.1.below hb3 (by simp <;> omega); have hy1 := HX.out.2.below hb3 (by simp <;> omega); obtain ⟨c0, c1, c2, c3, c4, f0, f1, f2, f3, f4⟩ := hy0.five; have e0 : W3.cell? ⟨w.heap.size + 1, 0, none⟩ = some (.int .u16 0) := (hy1.cell 0).trans rfl; have e1 := hy1.frozen 0; have H3 := Lib.hid (And.intro (HB.out.1.trans (hb3.mono HB.out.1.size)) hy1); clear hb3 hy0 hy1; rcases hv with rfl | ⟨N, rfl⟩))
  · refine leaves_cons (f := 23) (args := #[.pointer (some ⟨w.heap.size + 1, 0, none⟩)]) (by simp) (by simp [go_sem]) ?_
    refine (catch_errno ⟨w.heap.size + 1, 0, none⟩ 0 20 [] _ e0 e1).mono ?_
    rintro e u' w'' ⟨rfl, rfl, rfl⟩
    have e5 := ((H3.out.2.put 0 (.int .u16 20)).cell 0).trans rfl
    simp [Leaves, settle, results, Tryd.results12, go_sem, c0, c1, c2, c3, c4, e5]
    exact ⟨H3.out.1.setCell (by simp) _, .inr (.inl ⟨HB.out.2.1, HB.out.2.2, rfl⟩)⟩
  · refine leaves_cons (f := 23) (args := #[.pointer (some ⟨w.heap.size + 1, 0, none⟩)]) (by simp) (by simp [go_sem]) ?_
    refine (catch_num ⟨w.heap.size + 1, 0, none⟩ 0 _ [] _ e0 e1).mono ?_
    rintro e u' w'' ⟨rfl, rfl, rfl⟩
    have e5 := ((H3.out.2.put 0 (.int .u16 20)).cell 0).trans rfl
    simp [Leaves, settle, results, Tryd.results12, go_sem, c0, c1, c2, c3, c4, e5]
    exact ⟨H3.out.1.setCell (by simp) _, .inr (.inl ⟨HB.out.2.1, HB.out.2.2, rfl⟩)⟩
set_option maxHeartbeats 4000000 in
set_option maxRecDepth 100000 in
theorem dec_yes (s : ByteArray) (w : World) (hs : s.size ≤ 60000) (hU : Tabs w) (hE : ErrsB w.heap.size w) (hT : TenB w.heap.size w) (g : GV) (hg : Is s g) : Calls Tryd.prog 12 #[.string s] w (DecOut s w) := by
  have hmf : ∀ (fn : Fn) (first cap : Array Value) (w : World), (Instr.makeFunc fn first cap).run Tryd.prog w = .ok (.func fn first cap) w := fun _ _ _ _ => rfl
  have h1 : decide ((s.size : Int) ≤ 60000) = true := by simp; omega
  have hb : Below w.heap.size w ((w.alloc (.cells #[.int .u8 0, .int .i64 0, .string ⟨#[]⟩, .slice none 0 0, .slice none 0 0] 31)).alloc (.cells #[.int .u16 0] 25)) := ((Below.refl _ _).alloc (Nat.le_refl _) _).alloc (by simp) _
  have HW := Lib.hid (r_whole s ((w.alloc (.cells #[.int .u8 0, .int .i64 0, .string ⟨#[]⟩, .slice none 0 0, .slice none 0 0] 31)).alloc (.cells #[.int .u16 0] 25)) hs (hU.below hb (Nat.le_refl _)) (fun_errs hE hb) (fun_ten hT hb))
  have HB := Lib.hid (And.intro hb (And.intro hs hg))
  have hx0 := (Whole.new w 31 #[.int .u8 0, .int .i64 0, .string ⟨#[]⟩, .slice none 0 0, .slice none 0 0]).alloc (.cells #[.int .u16 0] 25)
  have hx1 : Whole ((w.alloc (.cells #[.int .u8 0, .int .i64 0, .string ⟨#[]⟩, .slice none 0 0, .slice none 0 0] 31)).alloc (.cells #[.int .u16 0] 25)) (w.heap.size + 1) 25 #[.int .u16 0] := by simpa using Whole.new (w.alloc (.cells #[.int .u8 0, .int .i64 0, .string ⟨#[]⟩, .slice none 0 0, .slice none 0 0] 31)) 25 #[.int .u16 0]
  have HX := Lib.hid (And.intro hx0 hx1)
  clear hs hU hE hT hb hx0 hx1 hg
  go_enter_defers Tryd.func12, Tryd.ntmps12
  go_wp2_with (first
    | (go_at_call 24; (with_reducible refine (need_ok _ _).mono ?_); rintro e W4 ⟨rfl, rfl⟩)
    | (go_at_call 25; refine HW.out.mono ?_; rintro e W3 (⟨g', v, hg', rfl, ⟨L, O, rfl, hL, hO⟩, hb3⟩ | ⟨hn, _⟩); rotate_left; exact absurd ⟨g, HB.out.2.2⟩ hn; have eg := hg'.one HB.out.2.2; subst eg; obtain ⟨BL, dL, rfl⟩ := lst_form hL; obtain ⟨BO, dO, rfl⟩ := obj_form hO; have hy0 := HX.out.1.below hb3 (by simp <;> omega); have hy1 := HX.out.2.below hb3 (by simp <;> omega); obtain ⟨c0, c1, c2, c3, c4, f0, f1, f2, f3, f4⟩ := hy0.five; have e0 : W3.cell? ⟨w.heap.size + 1, 0, none⟩ = some (.int .u16 0) := (hy1.cell 0).trans rfl; have e1 := hy1.frozen 0; have H3 := Lib.hid (And.intro (HB.out.1.trans (hb3.mono HB.out.1.size)) (And.intro hL (And.intro hO (And.intro hy0 hy1)))); clear hb3 hy0 hy1 hL hO hg'))
  refine leaves_cons (f := 23) (args := #[.pointer (some ⟨w.heap.size + 1, 0, none⟩)]) (by simp) (by simp [go_sem]) ?_
  refine (catch_none ⟨w.heap.size + 1, 0, none⟩ _).mono ?_
  rintro e u' w'' ⟨rfl, rfl, rfl⟩
  have hP : ∃ W5, W5 = put5 W3 w.heap.size (.int .u8 g'.kind) (.int .i64 g'.num) (.string g'.str) (.slice BL g'.items.length dL) (.slice BO g'.vals.length dO) := ⟨_, rfl⟩
  obtain ⟨W5, hP⟩ := hP
  obtain ⟨d0, d1, d2, d3, d4, _⟩ := (whole_put5' H3.out.2.2.2.1 (.int .u8 g'.kind) (.int .i64 g'.num) (.string g'.str) (.slice BL g'.items.length dL) (.slice BO g'.vals.length dO)).five
  rw [← hP] at d0 d1 d2 d3 d4
  have hF : From (fun k => w.heap.size + 2 ≤ k) W3 W5 := fun k hk _ => by rw [hP]; exact put5_block _ _ _ _ _ _ _ _ (by omega)
  have hB5 : Below w.heap.size w W5 := by rw [hP]; exact Below.put5 H3.out.1 (Nat.le_refl _) _ _ _ _ _
  have hy5 : Whole W5 (w.heap.size + 1) 25 #[.int .u16 0] := by rw [hP]; exact H3.out.2.2.2.2.of_eq (put5_block _ _ _ _ _ _ _ _ (by omega))
  have e5 := ((hy5.put 0 (.int .u16 0)).cell 0).trans rfl
  unfold put5 at hP
  rw [← hP]
  have hF6 : From (fun k => w.heap.size + 2 ≤ k) W3 (W5.setCell ⟨w.heap.size + 1, 0, none⟩ (.int .u16 0)) := fun k hk hl => (Below.heap_setCell W5 ⟨w.heap.size + 1, 0, none⟩ _ k (by simp only; omega)).trans (hF k hk hl)
  have hL5 := (H3.out.2.1.keep (ok' := fun k => w.heap.size + 2 ≤ k) (From.refl _ _) (fun k hk _ => by simpa using hk)).keep (ok' := fun k => w.heap.size ≤ k) hF6 fun k hk _ => by omega
  have hO5 := (H3.out.2.2.1.keep (ok' := fun k => w.heap.size + 2 ≤ k) (From.refl _ _) (fun k hk _ => by simpa using hk)).keep (ok' := fun k => w.heap.size ≤ k) hF6 fun k hk _ => by omega
  have H6 := Lib.hid (And.intro (hB5.setCell (p := ⟨w.heap.size + 1, 0, none⟩) (by simp) (.int .u16 0)) (And.intro hL5 hO5))
  clear hP hF hB5 hF6 hL5 hO5 c0 c1 c2 c3 c4 f0 f1 f2 f3 f4 e0 e1
  simp [Leaves, settle, results, Tryd.results12, go_sem, d0, d1, d2, d3, d4, e5]
  exact ⟨H6.out.1, .inr (.inr ⟨HB.out.2.1, g', _, HB.out.2.2, rfl, ⟨_, _, rfl, H6.out.2.1, H6.out.2.2⟩⟩)⟩
theorem j_Decode (s : ByteArray) (w : World) (hU : Tabs w) (hE : ErrsB w.heap.size w) (hT : TenB w.heap.size w) : Calls Tryd.prog 12 #[.string s] w (DecOut s w) := by
  by_cases hs : s.size ≤ 60000
  · rcases Classical.em (∃ g, Is s g) with ⟨g, hg⟩ | hn
    · exact dec_yes s w hs hU hE hT g hg
    · exact dec_no s w hs hU hE hT hn
  · exact dec_long s w (by omega)
end Go.Proofs.YtmmjkhkcffgeiaaDoor
