/- json.Decode: what it answers. -/
import Derived.Test.YtmmjkhkcffgeiaaDoorRdX
namespace Go.Proofs.YtmmjkhkcffgeiaaDoor
open Go Go.RowKit Go.Shelf
set_option linter.unusedVariables false
set_option linter.unusedSimpArgs false

/-- How Decode ends. -/
def DecOut (s : ByteArray) (w : World) (e : Ending) (w' : World) : Prop :=
  Below w.heap.size w w' ∧ ((60000 < s.size ∧ e = .returned (.tuple #[.agg #[.int .u8 0, .int .i64 0, .string ⟨#[]⟩, .slice none 0 0, .slice none 0 0], .int .u16 3])) ∨
    (s.size ≤ 60000 ∧ (¬ ∃ g, Is s g) ∧ e = .returned (.tuple #[.agg #[.int .u8 0, .int .i64 0, .string ⟨#[]⟩, .slice none 0 0, .slice none 0 0], .int .u16 20])) ∨
    (s.size ≤ 60000 ∧ ∃ (g : GV) (v : Value), Is s g ∧ e = .returned (.tuple #[v, .int .u16 0]) ∧ g.val (fun k => w.heap.size ≤ k) w' v))
set_option maxHeartbeats 4000000 in
set_option maxRecDepth 100000 in
theorem dec_long (s : ByteArray) (w : World) (hs : 60000 < s.size) : Calls Tryd.prog 12 #[.string s] w (DecOut s w) := by
  have hmf : ∀ (fn : Fn) (first cap : Array Value) (w : World), (Instr.makeFunc fn first cap).run Tryd.prog w = .ok (.func fn first cap) w := fun _ _ _ _ => rfl
  have h1 : decide ((s.size : Int) ≤ 60000) = false := by simp; omega
  have HS := Lib.hid hs
  clear hs
  go_enter_defers Tryd.func12, Tryd.ntmps12
  go_wp2_with (go_at_call 24; (with_reducible refine (need_bad _ _).mono ?_); rintro e W4 ⟨rfl, rfl⟩)
  refine leaves_cons (f := 23) (args := #[.pointer (some ⟨w.heap.size + 1, 0, none⟩)]) (by simp) (by simp [go_sem]) ?_
  refine (catch_errno ⟨w.heap.size + 1, 0, none⟩ 0 3 [] _ ?_ ?_).mono ?_
  · simp [go_sem]
  · simp [go_sem]
  rintro e u' w'' ⟨rfl, rfl, rfl⟩
  simp [Leaves, settle, results, Tryd.results12, go_sem]
  exact ⟨((Below.refl _ _).alloc (Nat.le_refl _) _).alloc (by simp) _, .inl ⟨HS.out, rfl⟩⟩
theorem fun_errs {W W' : World} (h : ErrsB W.heap.size W) (hb : Below W.heap.size W W') : ErrsB W'.heap.size W' := by
  obtain ⟨e5, e6, h1, h2, h3⟩ := h
  exact ⟨e5, e6, fun W2 h => h1 W2 (hb.trans (h.mono hb.size)), h2, h3⟩
theorem fun_ten {W W' : World} (h : TenB W.heap.size W) (hb : Below W.heap.size W W') : TenB W'.heap.size W' := fun _ k => h _ (hb.trans (k.mono hb.size))
set_option maxHeartbeats 4000000 in
set_option maxRecDepth 100000 in
theorem dec_no (s : ByteArray) (w : World) (hs : s.size ≤ 60000) (hU : Tabs w) (hE : ErrsB w.heap.size w) (hT : TenB w.heap.size w) (hno : ¬ ∃ g, Is s g) : Calls Tryd.prog 12 #[.string s] w (DecOut s w) := by
  have hmf : ∀ (fn : Fn) (first cap : Array Value) (w : World), (Instr.makeFunc fn first cap).run Tryd.prog w = .ok (.func fn first cap) w := fun _ _ _ _ => rfl
  have h1 : decide ((s.size : Int) ≤ 60000) = true := by simp; omega
  have hb : Below w.heap.size w ((w.alloc (.cells #[.int .u8 0, .int .i64 0, .string ⟨#[]⟩, .slice none 0 0, .slice none 0 0] 31)).alloc (.cells #[.int .u16 0] 25)) := ((Below.refl _ _).alloc (Nat.le_refl _) _).alloc (by simp) _
  have HW := Lib.hid (r_whole s ((w.alloc (.cells #[.int .u8 0, .int .i64 0, .string ⟨#[]⟩, .slice none 0 0, .slice none 0 0] 31)).alloc (.cells #[.int .u16 0] 25)) hs (hU.below hb (Nat.le_refl _)) (fun_errs hE hb) (fun_ten hT hb))
  have HB := Lib.hid (And.intro hb (And.intro hs hno))
  have hx0 := (Whole.new w 31 #[.int .u8 0, .int .i64 0, .string ⟨#[]⟩, .slice none 0 0, .slice none 0 0]).alloc (.cells #[.int .u16 0] 25)
  have hx1 : Whole ((w.alloc (.cells #[.int .u8 0, .int .i64 0, .string ⟨#[]⟩, .slice none 0 0, .slice none 0 0] 31)).alloc (.cells #[.int .u16 0] 25)) (w.heap.size + 1) 25 #[.int .u16 0] := by simpa using Whole.new (w.alloc (.cells #[.int .u8 0, .int .i64 0, .string ⟨#[]⟩, .slice none 0 0, .slice none 0 0] 31)) 25 #[.int .u16 0]
  have HX := Lib.hid (And.intro hx0 hx1)
  clear hs hU hE hT hb hx0 hx1 hno
  go_enter_defers Tryd.func12, Tryd.ntmps12
  go_wp2_with (first
    | (go_at_call 24; (with_reducible refine (need_ok _ _).mono ?_); rintro e W4 ⟨rfl, rfl⟩)
    | (go_at_call 25; refine HW.out.mono ?_; rintro e W3 (⟨g, v, hg, _⟩ | ⟨hn, v, rfl, hv, hb3⟩); exact absurd ⟨g, hg⟩ HB.out.2.2; have hy0 := HX.out.1.below hb3 (by simp <;> omega); have hy1 := HX.out.2.below hb3 (by simp <;> omega); obtain ⟨c0, c1, c2, c3, c4, f0, f1, f2, f3, f4⟩ := hy0.five; have e0 : W3.cell? ⟨w.heap.size + 1, 0, none⟩ = some (.int .u16 0) := (hy1.cell 0).trans rfl; have e1 := hy1.frozen 0; have H3 := Lib.hid (And.intro (HB.out.1.trans (hb3.mono HB.out.1.size)) hy1); clear hb3 hy0 hy1; rcases hv with rfl | ⟨N, rfl⟩))
  · refine leaves_cons (f := 23) (args := #[.pointer (some ⟨w.heap.size + 1, 0, none⟩)]) (by simp) (by simp [go_sem]) ?_
    refine (catch_errno ⟨w.heap.size + 1, 0, none⟩ 0 20 [] _ e0 e1).mono ?_
    rintro e u' w'' ⟨rfl, rfl, rfl⟩
    have e5 := ((H3.out.2.put 0 (.int .u16 20)).cell 0).trans rfl
    simp [Leaves, settle, results, Tryd.results12, go_sem, c0, c1, c2, c3, c4, e5]
    exact ⟨H3.out.1.setCell (by simp) _, .inr (.inl ⟨HB.out.2.1, HB.out.2.2, rfl⟩)⟩
  · refine leaves_cons (f := 23) (args := #[.pointer (some ⟨w.heap.size + 1, 0, none⟩)]) (by simp) (by simp [go_sem]) ?_
    refine (catch_num ⟨w.heap.size + 1, 0, none⟩ 0 _ [] _ e0 e1).mono ?_
    rintro e u' w'' ⟨rfl, rfl, rfl⟩
    have e5 := ((H3.out.2.put 0 (.int .u16 20)).cell 0).trans rfl
    simp [Leaves, settle, results, Tryd.results12, go_sem, c0, c1, c2, c3, c4, e5]
    exact ⟨H3.out.1.setCell (by simp) _, .inr (.inl ⟨HB.out.2.1, HB.out.2.2, rfl⟩)⟩
set_option maxHeartbeats 4000000 in
set_option maxRecDepth 100000 in
theorem dec_yes (s : ByteArray) (w : World) (hs : s.size ≤ 60000) (hU : Tabs w) (hE : ErrsB w.heap.size w) (hT : TenB w.heap.size w) (g : GV) (hg : Is s g) : Calls Tryd.prog 12 #[.string s] w (DecOut s w) := by
  have hmf : ∀ (fn : Fn) (first cap : Array Value) (w : World), (Instr.makeFunc fn first cap).run Tryd.prog w = .ok (.func fn first cap) w := fun _ _ _ _ => rfl
  have h1 : decide ((s.size : Int) ≤ 60000) = true := by simp; omega
  have hb : Below w.heap.size w ((w.alloc (.cells #[.int .u8 0, .int .i64 0, .string ⟨#[]⟩, .slice none 0 0, .slice none 0 0] 31)).alloc (.cells #[.int .u16 0] 25)) := ((Below.refl _ _).alloc (Nat.le_refl _) _).alloc (by simp) _
  have HW := Lib.hid (r_whole s ((w.alloc (.cells #[.int .u8 0, .int .i64 0, .string ⟨#[]⟩, .slice none 0 0, .slice none 0 0] 31)).alloc (.cells #[.int .u16 0] 25)) hs (hU.below hb (Nat.le_refl _)) (fun_errs hE hb) (fun_ten hT hb))
  have HB := Lib.hid (And.intro hb (And.intro hs hg))
  have hx0 := (Whole.new w 31 #[.int .u8 0, .int .i64 0, .string ⟨#[]⟩, .slice none 0 0, .slice none 0 0]).alloc (.cells #[.int .u16 0] 25)
  have hx1 : Whole ((w.alloc (.cells #[.int .u8 0, .int .i64 0, .string ⟨#[]⟩, .slice none 0 0, .slice none 0 0] 31)).alloc (.cells #[.int .u16 0] 25)) (w.heap.size + 1) 25 #[.int .u16 0] := by simpa using Whole.new (w.alloc (.cells #[.int .u8 0, .int .i64 0, .string ⟨#[]⟩, .slice none 0 0, .slice none 0 0] 31)) 25 #[.int .u16 0]
  have HX := Lib.hid (And.intro hx0 hx1)
  clear hs hU hE hT hb hx0 hx1 hg
  go_enter_defers Tryd.func12, Tryd.ntmps12
  go_wp2_with (first
    | (go_at_call 24; (with_reducible refine (need_ok _ _).mono ?_); rintro e W4 ⟨rfl, rfl⟩)
    | (go_at_call 25; refine HW.out.mono ?_; rintro e W3 (⟨g', v, hg', rfl, ⟨L, O, rfl, hL, hO⟩, hb3⟩ | ⟨hn, _⟩); rotate_left; exact absurd ⟨g, HB.out.2.2⟩ hn; have eg := hg'.one HB.out.2.2; subst eg; obtain ⟨BL, dL, rfl⟩ := lst_form hL; obtain ⟨BO, dO, rfl⟩ := obj_form hO; have hy0 := HX.out.1.below hb3 (by simp <;> omega); have hy1 := HX.out.2.below hb3 (by simp <;> omega); obtain ⟨c0, c1, c2, c3, c4, f0, f1, f2, f3, f4⟩ := hy0.five; have e0 : W3.cell? ⟨w.heap.size + 1, 0, none⟩ = some (.int .u16 0) := (hy1.cell 0).trans rfl; have e1 := hy1.frozen 0; have H3 := Lib.hid (And.intro (HB.out.1.trans (hb3.mono HB.out.1.size)) (And.intro hL (And.intro hO (And.intro hy0 hy1)))); clear hb3 hy0 hy1 hL hO hg'))
  refine leaves_cons (f := 23) (args := #[.pointer (some ⟨w.heap.size + 1, 0, none⟩)]) (by simp) (by simp [go_sem]) ?_
  refine (catch_none ⟨w.heap.size + 1, 0, none⟩ _).mono ?_
  rintro e u' w'' ⟨rfl, rfl, rfl⟩
  have hP : ∃ W5, W5 = put5 W3 w.heap.size (.int .u8 g'.kind) (.int .i64 g'.num) (.string g'.str) (.slice BL g'.items.length dL) (.slice BO g'.vals.length dO) := ⟨_, rfl⟩
  obtain ⟨W5, hP⟩ := hP
  obtain ⟨d0, d1, d2, d3, d4, _⟩ := (whole_put5' H3.out.2.2.2.1 (.int .u8 g'.kind) (.int .i64 g'.num) (.string g'.str) (.slice BL g'.items.length dL) (.slice BO g'.vals.length dO)).five
  rw [← hP] at d0 d1 d2 d3 d4
  have hF : From (fun k => w.heap.size + 2 ≤ k) W3 W5 := fun k hk _ => by rw [hP]; exact put5_block _ _ _ _ _ _ _ _ (by omega)
  have hB5 : Below w.heap.size w W5 := by rw [hP]; exact Below.put5 H3.out.1 (Nat.le_refl _) _ _ _ _ _
  have hy5 : Whole W5 (w.heap.size + 1) 25 #[.int .u16 0] := by rw [hP]; exact H3.out.2.2.2.2.of_eq (put5_block _ _ _ _ _ _ _ _ (by omega))
  have e5 := ((hy5.put 0 (.int .u16 0)).cell 0).trans rfl
  unfold put5 at hP
  rw [← hP]
  have hF6 : From (fun k => w.heap.size + 2 ≤ k) W3 (W5.setCell ⟨w.heap.size + 1, 0, none⟩ (.int .u16 0)) := fun k hk hl => (Below.heap_setCell W5 ⟨w.heap.size + 1, 0, none⟩ _ k (by simp only; omega)).trans (hF k hk hl)
  have hL5 := (H3.out.2.1.keep (ok' := fun k => w.heap.size + 2 ≤ k) (From.refl _ _) (fun k hk _ => by simpa using hk)).keep (ok' := fun k => w.heap.size ≤ k) hF6 fun k hk _ => by omega
  have hO5 := (H3.out.2.2.1.keep (ok' := fun k => w.heap.size + 2 ≤ k) (From.refl _ _) (fun k hk _ => by simpa using hk)).keep (ok' := fun k => w.heap.size ≤ k) hF6 fun k hk _ => by omega
  have H6 := Lib.hid (And.intro (hB5.setCell (p := ⟨w.heap.size + 1, 0, none⟩) (by simp) (.int .u16 0)) (And.intro hL5 hO5))
  clear hP hF hB5 hF6 hL5 hO5 c0 c1 c2 c3 c4 f0 f1 f2 f3 f4 e0 e1
  simp [Leaves, settle, results, Tryd.results12, go_sem, d0, d1, d2, d3, d4, e5]
  exact ⟨H6.out.1, .inr (.inr ⟨HB.out.2.1, g', _, HB.out.2.2, rfl, ⟨_, _, rfl, H6.out.2.1, H6.out.2.2⟩⟩)⟩
theorem j_Decode (s : ByteArray) (w : World) (hU : Tabs w) (hE : ErrsB w.heap.size w) (hT : TenB w.heap.size w) : Calls Tryd.prog 12 #[.string s] w (DecOut s w) := by
  by_cases hs : s.size ≤ 60000
  · rcases Classical.em (∃ g, Is s g) with ⟨g, hg⟩ | hn
    · exact dec_yes s w hs hU hE hT g hg
    · exact dec_no s w hs hU hE hT hn
  · exact dec_long s w (by omega)
end Go.Proofs.YtmmjkhkcffgeiaaDoor
