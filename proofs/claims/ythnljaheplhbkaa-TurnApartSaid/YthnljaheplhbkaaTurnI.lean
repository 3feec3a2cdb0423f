/- Turn of components: where one leads into the list that the other works on. -/
import Derived.Test.YthnljaheplhbkaaTurnA
import Derived.Test.YthnljaheplhbkaaLaysS
import Derived.Lib.QuietBelow
namespace Go.Proofs.Ythnljaheplhbkaa
open Go Go.RowKit Go.Shelf
open Go.Sort (grow)
set_option linter.unusedVariables false
set_option linter.unusedSimpArgs false

theorem turn_alone' (c : GC) (A AL AO : Option Addr) (cp cL cO n : Nat) (w : World) (hn : c.path.length = n) (hc : Cc w c A AL AO cp cL cO) (hb : CBd c) : Calls Try.prog 19 #[.agg #[.int .u8 c.kind, .slice A n cp, .string c.key, .int .i64 c.i, .int .i64 c.j, .int .i64 c.n, .int .u8 c.v.kind, .int .i64 c.v.num, .string c.v.str, .slice AL c.v.items.length cL, .slice AO c.v.vals.length cO, .string c.s]] w (AloneIs c w) := by
  subst hn
  exact turn_alone c A AL AO cp cL cO w hc hb

theorem clone_steps {w : World} {A : Option Addr} {cp : Nat} {ps : List GStep} (hp : Wy w A cp ps) (hne : ps ≠ []) (hsz : ps.length ≤ 1000000000) : Calls Try.prog 40 #[.slice A ps.length cp] w fun e w' => ∃ g d cur, e = .returned (.slice (some ⟨g, 0, none⟩) ps.length d) ∧ w.heap.size ≤ g ∧ Whole w' g 48 cur ∧ StepsAt w' ⟨g, 0, none⟩ ps ∧ (ps.length ≤ d ∧ d ≤ maxLen) ∧ Below w.heap.size w w' := by
  obtain ⟨⟨b, o, sp⟩, rfl, hs, hlt, hc⟩ := hp.steps hne
  simp only at hs
  subst hs
  obtain ⟨i0, hi, hz0, hz1, hz2⟩ := info_parts infoStep
  have hle := hp.le
  have hcap := hp.cap
  refine Calls.mono (AnyE.slices_Clone Try.cloneS i0 _ 3 32 hi hz0 hz1 hz2 rfl (by decide) Try.sizeOf48 b o ps.length cp (ps.flatMap encG) w (flat_len ps) (by unfold maxLen; omega) (by omega) (fun j u hj => by simpa [addr_add0] using steps_cells hc j u hj) (flat_one ps)) fun e w' ⟨v', he, ho, _, hb⟩ => ?_
  rcases ho.2 with ⟨_, hn⟩ | ⟨g, cap, cur, rfl, hg, hcell, h1, h2, h3, h4⟩
  · exact absurd (List.length_eq_zero_iff.1 hn) hne
  · refine ⟨g, cap, cur, he, hg, hcell, cells_steps fun j u hj => ?_, ⟨h1, h2⟩, hb⟩
    have := ho.cells (g := g) rfl j u hj
    simpa [addr_add0] using this
/-- A step's place is stored. -/
theorem steps_store {W : World} {g at' : Nat} {ps : List GStep} {s : GStep} {i : Int} {cur : Array Value} (hW : Whole W g 48 cur) (hst : StepsAt W ⟨g, 0, none⟩ ps) (hs : ps[at']? = some s) :
    StepsAt (W.setCell ⟨g, at' * 3 + 1, none⟩ (.int .i64 i)) ⟨g, 0, none⟩ (ps.set at' ⟨s.list, i, s.key⟩) := by
  have hl := (List.getElem?_eq_some_iff.1 hs).1
  intro j t hj
  simp only [Nat.zero_add]
  have h1 : (W.setCell ⟨g, at' * 3 + 1, none⟩ (.int .i64 i)).cell? ⟨g, at' * 3 + 1, none⟩ = some (.int .i64 i) := World.cell?_setCell_same' _ _ _ (by have := (hst at' s hs).2.1; simp only [Nat.zero_add] at this; rw [this]; rfl)
  have hoth : ∀ o, o ≠ at' * 3 + 1 → (W.setCell ⟨g, at' * 3 + 1, none⟩ (.int .i64 i)).cell? ⟨g, o, none⟩ = W.cell? ⟨g, o, none⟩ := fun o ho => World.cell?_setCell_other _ _ _ _ (by intro h; cases h; exact ho rfl)
  by_cases e : j = at'
  · subst e
    rw [List.getElem?_set_self hl] at hj
    cases hj
    obtain ⟨q0, _, q2⟩ := hst j s hs
    simp only [Nat.zero_add] at q0 q2
    exact ⟨(hoth _ (by omega)).trans q0, h1, (hoth _ (by omega)).trans q2⟩
  · rw [List.getElem?_set_ne (by omega)] at hj
    obtain ⟨q0, q1, q2⟩ := hst j t hj
    simp only [Nat.zero_add] at q0 q1 q2
    exact ⟨(hoth _ (by omega)).trans q0, (hoth _ (by omega)).trans q1, (hoth _ (by omega)).trans q2⟩

/-- The component with another path, behind both stores. -/
theorem cc_store {w w3 : World} {a : GC} {A AL AO : Option Addr} {ap aL aO g d at' : Nat} {s : GStep} {i : Int} {cur : Array Value} (ha : Cc w a A AL AO ap aL aO) (hb : Below w.heap.size w w3) (hg : w.heap.size < g) (hcur : Whole w3 g 48 cur) (hst : StepsAt w3 ⟨g, 0, none⟩ a.path) (hd : a.path.length ≤ d ∧ d ≤ maxLen) (hs : a.path[at']? = some s) (u : Value) :
    Cc ((w3.setCell ⟨w.heap.size, 1, none⟩ u).setCell ⟨g, at' * 3 + 1, none⟩ (.int .i64 i)) ⟨a.kind, a.path.set at' ⟨s.list, i, s.key⟩, a.key, a.i, a.j, a.n, a.v, a.s⟩ (some ⟨g, 0, none⟩) AL AO d aL aO ∧ Below w.heap.size w ((w3.setCell ⟨w.heap.size, 1, none⟩ u).setCell ⟨g, at' * 3 + 1, none⟩ (.int .i64 i)) := by
  have hB := (hb.setCell (p := ⟨w.heap.size, 1, none⟩) (Nat.le_refl _) u).setCell (p := ⟨g, at' * 3 + 1, none⟩) (by simp only; omega) (.int .i64 i)
  refine ⟨⟨⟨fun _ => ⟨_, rfl, rfl, ?_, steps_store (hcur.far (by simp only; omega) u) (fun j t hj => ?_) hs⟩, by simpa using hd.1, hd.2⟩, ha.v.later hB⟩, hB⟩
  · have := hcur.lt
    rw [size_set, size_set]
    exact this
  · obtain ⟨q0, q1, q2⟩ := hst j t hj
    have hoth : ∀ o, (w3.setCell ⟨w.heap.size, 1, none⟩ u).cell? ⟨g, o, none⟩ = w3.cell? ⟨g, o, none⟩ := fun o => World.cell?_setCell_other _ _ _ _ (by intro h; cases h; omega)
    exact ⟨(hoth _).trans q0, (hoth _).trans q1, (hoth _).trans q2⟩
theorem cbd_set {a : GC} (h : CBd a) {at' : Nat} {s : GStep} (hs : a.path[at']? = some s) (i : Int) : CBd ⟨a.kind, a.path.set at' ⟨s.list, i, s.key⟩, a.key, a.i, a.j, a.n, a.v, a.s⟩ :=
  ⟨h.v, by simpa using h.p, h.k, h.s, fun t ht => by
    rcases List.mem_or_eq_of_mem_set ht with h1 | h1
    · exact h.pk t h1
    · rw [h1]; exact h.pk s (List.mem_of_getElem? hs)⟩

set_option maxRecDepth 100000 in
set_option maxHeartbeats 4000000 in
theorem inside_gone (a : GC) (A AL AO B BL BO : Option Addr) (ap aL aO bp bL bO kd bi bj x at' : Nat) (bpath : List GStep) (bkey bs : ByteArray) (bn : Int) (bv : GV) (s : GStep) (w : World) (ha : Cc w a A AL AO ap aL aO) (hba : CBd a) (hs : a.path[at']? = some s) (hx : s.i = x) (hx1 : x ≤ 549755813888) (hi1 : bi ≤ 549755813888) (hj1 : bj ≤ 549755813888) (hatb : atB x kd bi = false) : Calls Try.prog 32 #[.agg #[.int .u8 a.kind, .slice A a.path.length ap, .string a.key, .int .i64 a.i, .int .i64 a.j, .int .i64 a.n, .int .u8 a.v.kind, .int .i64 a.v.num, .string a.v.str, .slice AL a.v.items.length aL, .slice AO a.v.vals.length aO, .string a.s], .int .i64 at', .agg #[.int .u8 kd, .slice B bpath.length bp, .string bkey, .int .i64 bi, .int .i64 bj, .int .i64 bn, .int .u8 bv.kind, .int .i64 bv.num, .string bv.str, .slice BL bv.items.length bL, .slice BO bv.vals.length bO, .string bs]] w fun e w' => e = .returned (.slice none 0 0) ∧ Below w.heap.size w w' := by
  have hat := (List.getElem?_eq_some_iff.1 hs).1
  have hne : a.path ≠ [] := by intro e; rw [e] at hs; cases hs
  obtain ⟨⟨pb, po, sp⟩, rfl, hsp, hplt, hcells⟩ := ha.path.steps hne
  simp only at hsp
  subst hsp
  have hxc := (hcells at' s hs).2.1
  rw [hx] at hxc
  simp only at hxc
  have hle := ha.path.le
  have hcap := ha.path.cap
  unfold maxLen at hcap
  have hpl := hba.p
  have H0 := Lib.hid (CTwo.new w #[.int .u8 a.kind, .slice (some ⟨pb, po, none⟩) a.path.length ap, .string a.key, .int .i64 a.i, .int .i64 a.j, .int .i64 a.n, .int .u8 a.v.kind, .int .i64 a.v.num, .string a.v.str, .slice AL a.v.items.length aL, .slice AO a.v.vals.length aO, .string a.s] #[.int .u8 kd, .slice B bpath.length bp, .string bkey, .int .i64 bi, .int .i64 bj, .int .i64 bn, .int .u8 bv.kind, .int .i64 bv.num, .string bv.str, .slice BL bv.items.length bL, .slice BO bv.vals.length bO, .string bs])
  have hxw := H0.out.below.cell (p := ⟨pb, po + at' * 3 + 1, none⟩) hplt
  rw [hxc] at hxw
  have D1 := Lib.hid (fun (W0 : World) (d : Nat) (os : Array Obj) => Calls.regrown_of (at_any x bi bj kd B BL BO bpath.length bp bv.items.length bL bv.vals.length bO bkey bv.str bs bn bv.kind bv.num (grow (redrawn W0 d) os) hx1 hi1 hj1))
  rw [hatb] at D1
  have HN := Lib.hid (And.intro hs (And.intro hne ha))
  have HBA := Lib.hid hba
  clear hs hx hxc hcells hne ha hba hx1 hi1 hj1 hatb
  generalize hn : a.path.length = n at *
  have HNN := Lib.hid hn
  clear hn
  go_enter Try.func32, Try.ntmps32
  go_wp2_with fail
  obtain ⟨p0, p1, p2, p3, p4, p5, p6, p7, p8, p9, p10, p11, _⟩ := H0.out.a.tw
  obtain ⟨q0, q1, q2, q3, q4, q5, q6, q7, q8, q9, q10, q11, _⟩ := H0.out.b.tw
  generalize ((w.alloc (.cells #[.int .u8 a.kind, .slice (some ⟨pb, po, none⟩) n ap, .string a.key, .int .i64 a.i, .int .i64 a.j, .int .i64 a.n, .int .u8 a.v.kind, .int .i64 a.v.num, .string a.v.str, .slice AL a.v.items.length aL, .slice AO a.v.vals.length aO, .string a.s] 35)).alloc (.cells #[.int .u8 kd, .slice B bpath.length bp, .string bkey, .int .i64 bi, .int .i64 bj, .int .i64 bn, .int .u8 bv.kind, .int .i64 bv.num, .string bv.str, .slice BL bv.items.length bL, .slice BO bv.vals.length bO, .string bs] 35)) = W1 at *
  have u1 := cell_regrown p1
  have ux := cell_regrown hxw
  have r0 := cell_regrown q0; have r1 := cell_regrown q1; have r2 := cell_regrown q2; have r3 := cell_regrown q3; have r4 := cell_regrown q4; have r5 := cell_regrown q5; have r6 := cell_regrown q6; have r7 := cell_regrown q7; have r8 := cell_regrown q8; have r9 := cell_regrown q9; have r10 := cell_regrown q10; have r11 := cell_regrown q11
  clear p0 p1 p2 p3 p4 p5 p6 p7 p8 p9 p10 p11 q0 q1 q2 q3 q4 q5 q6 q7 q8 q9 q10 q11 hxw
  refine wp_region_quiet_below (by kernel_rfl) (by kernel_rfl) ?_
  repeat (any_goals (go_big_quiet_step (first | with_reducible exact D1.out _ _ _)))
  refine wpQuiet_nil ?_
  intro _ hw'
  obtain ⟨⟨dq, osq⟩, hw''⟩ := hw'
  subst hw''
  have HB2 := Lib.hid (below_regrown W1 dq osq)
  clear u1 ux r0 r1 r2 r3 r4 r5 r6 r7 r8 r9 r10 r11
  generalize (grow (redrawn W1 dq) osq) = W2 at *
  go_wp2
  go_ret
  exact ⟨rfl, H0.out.below.trans (HB2.out.mono H0.out.below.size)⟩

set_option maxRecDepth 100000 in
set_option maxHeartbeats 4000000 in
theorem inside_there (a : GC) (A AL AO B BL BO : Option Addr) (ap aL aO bp bL bO kd bi bj x at' : Nat) (bpath : List GStep) (bkey bs : ByteArray) (bn : Int) (bv : GV) (s : GStep) (w : World) (ha : Cc w a A AL AO ap aL aO) (hba : CBd a) (hs : a.path[at']? = some s) (hx : s.i = x) (hx1 : x ≤ 549755813888) (hi1 : bi ≤ 549755813888) (hj1 : bj ≤ 549755813888) (hatb : atB x kd bi = true) : Calls Try.prog 32 #[.agg #[.int .u8 a.kind, .slice A a.path.length ap, .string a.key, .int .i64 a.i, .int .i64 a.j, .int .i64 a.n, .int .u8 a.v.kind, .int .i64 a.v.num, .string a.v.str, .slice AL a.v.items.length aL, .slice AO a.v.vals.length aO, .string a.s], .int .i64 at', .agg #[.int .u8 kd, .slice B bpath.length bp, .string bkey, .int .i64 bi, .int .i64 bj, .int .i64 bn, .int .u8 bv.kind, .int .i64 bv.num, .string bv.str, .slice BL bv.items.length bL, .slice BO bv.vals.length bO, .string bs]] w (AloneIs ⟨a.kind, a.path.set at' ⟨s.list, (atV x kd bi bj : Nat), s.key⟩, a.key, a.i, a.j, a.n, a.v, a.s⟩ w) := by
  have hat := (List.getElem?_eq_some_iff.1 hs).1
  have hne : a.path ≠ [] := by intro e; rw [e] at hs; cases hs
  obtain ⟨⟨pb, po, sp⟩, rfl, hsp, hplt, hcells⟩ := ha.path.steps hne
  simp only at hsp
  subst hsp
  have hxc := (hcells at' s hs).2.1
  rw [hx] at hxc
  simp only at hxc
  have hle := ha.path.le
  have hcap := ha.path.cap
  unfold maxLen at hcap
  have hpl := hba.p
  have H0 := Lib.hid (CTwo.new w #[.int .u8 a.kind, .slice (some ⟨pb, po, none⟩) a.path.length ap, .string a.key, .int .i64 a.i, .int .i64 a.j, .int .i64 a.n, .int .u8 a.v.kind, .int .i64 a.v.num, .string a.v.str, .slice AL a.v.items.length aL, .slice AO a.v.vals.length aO, .string a.s] #[.int .u8 kd, .slice B bpath.length bp, .string bkey, .int .i64 bi, .int .i64 bj, .int .i64 bn, .int .u8 bv.kind, .int .i64 bv.num, .string bv.str, .slice BL bv.items.length bL, .slice BO bv.vals.length bO, .string bs])
  have hxw := H0.out.below.cell (p := ⟨pb, po + at' * 3 + 1, none⟩) hplt
  rw [hxc] at hxw
  have D1 := Lib.hid (fun (W0 : World) (d : Nat) (os : Array Obj) => Calls.regrown_of (at_any x bi bj kd B BL BO bpath.length bp bv.items.length bL bv.vals.length bO bkey bv.str bs bn bv.kind bv.num (grow (redrawn W0 d) os) hx1 hi1 hj1))
  rw [hatb] at D1
  have HN := Lib.hid (And.intro hs (And.intro hne ha))
  have HBA := Lib.hid hba
  clear hs hx hxc hcells hne ha hba hx1 hi1 hj1 hatb
  generalize hn : a.path.length = n at *
  have HNN := Lib.hid hn
  clear hn
  go_enter Try.func32, Try.ntmps32
  go_wp2_with fail
  obtain ⟨p0, p1, p2, p3, p4, p5, p6, p7, p8, p9, p10, p11, _⟩ := H0.out.a.tw
  obtain ⟨q0, q1, q2, q3, q4, q5, q6, q7, q8, q9, q10, q11, _⟩ := H0.out.b.tw
  generalize ((w.alloc (.cells #[.int .u8 a.kind, .slice (some ⟨pb, po, none⟩) n ap, .string a.key, .int .i64 a.i, .int .i64 a.j, .int .i64 a.n, .int .u8 a.v.kind, .int .i64 a.v.num, .string a.v.str, .slice AL a.v.items.length aL, .slice AO a.v.vals.length aO, .string a.s] 35)).alloc (.cells #[.int .u8 kd, .slice B bpath.length bp, .string bkey, .int .i64 bi, .int .i64 bj, .int .i64 bn, .int .u8 bv.kind, .int .i64 bv.num, .string bv.str, .slice BL bv.items.length bL, .slice BO bv.vals.length bO, .string bs] 35)) = W1 at *
  have u1 := cell_regrown p1
  have ux := cell_regrown hxw
  have r0 := cell_regrown q0; have r1 := cell_regrown q1; have r2 := cell_regrown q2; have r3 := cell_regrown q3; have r4 := cell_regrown q4; have r5 := cell_regrown q5; have r6 := cell_regrown q6; have r7 := cell_regrown q7; have r8 := cell_regrown q8; have r9 := cell_regrown q9; have r10 := cell_regrown q10; have r11 := cell_regrown q11
  clear p0 p1 p2 p3 p4 p5 p6 p7 p8 p9 p10 p11 q0 q1 q2 q3 q4 q5 q6 q7 q8 q9 q10 q11 hxw
  refine wp_region_quiet_below (by kernel_rfl) (by kernel_rfl) ?_
  repeat (any_goals (go_big_quiet_step (first | with_reducible exact D1.out _ _ _)))
  refine wpQuiet_nil ?_
  intro _ hw'
  obtain ⟨⟨dq, osq⟩, hw''⟩ := hw'
  subst hw''
  have HB2 := Lib.hid (below_regrown W1 dq osq)
  clear u1 ux r0 r1 r2 r3 r4 r5 r6 r7 r8 r9 r10 r11
  generalize (grow (redrawn W1 dq) osq) = W2 at *
  have HCL := Lib.hid (fun W (h : Below w.heap.size w W) => clone_steps (HN.out.2.2.path.later h) HN.out.2.1 (by have := HNN.out; omega))
  rw [HNN.out] at HCL
  have H2 := Lib.hid (H0.out.step HB2.out)
  obtain ⟨p0, p1, p2, p3, p4, p5, p6, p7, p8, p9, p10, p11, f0, f1, _⟩ := H2.out.a.tw
  go_wp2_with (first
    | (go_at_call 40; refine (HCL.out _ H2.out.below).mono ?_; rintro e w3 ⟨g, d, cur, rfl, hg, hcur, hst, hd, hb⟩; have H3 := Lib.hid (And.intro (H2.out.step hb) (And.intro hg (And.intro hcur (And.intro hst (And.intro hd hb))))); clear hg hcur hst hd hb p0 p1 p2 p3 p4 p5 p6 p7 p8 p9 p10 p11 f0 f1; obtain ⟨p0, p1, p2, p3, p4, p5, p6, p7, p8, p9, p10, p11, f0, f1, _⟩ := H3.out.1.a.tw; have hgc := (H3.out.2.2.2.1 at' s HN.out.1).2.1; simp only [Nat.zero_add] at hgc; have hgf := H3.out.2.2.1.frozen (at' * 3 + 1); have hgd := H3.out.2.2.2.2.1.1; have hne1 : (g = w.heap.size) = False := (by have := H2.out.below.size; have := H2.out.b.lt; have := H3.out.2.1; simp; omega); have hne2 : (w.heap.size = g) = False := (by simp at hne1 ⊢; omega))
    | (go_at_call 19; go_loud (have HST := Lib.hid (cc_store (i := (atV x kd bi bj : Nat)) HN.out.2.2 H3.out.1.below (by have := H2.out.below.size; have := H2.out.b.lt; have := H3.out.2.1; omega) H3.out.2.2.1 H3.out.2.2.2.1 (by rw [HNN.out]; exact H3.out.2.2.2.2.1) HN.out.1 (.slice (some ⟨g, 0, none⟩) n d)); refine (turn_alone' ⟨a.kind, a.path.set at' ⟨s.list, (atV x kd bi bj : Nat), s.key⟩, a.key, a.i, a.j, a.n, a.v, a.s⟩ (some ⟨g, 0, none⟩) AL AO d aL aO n _ (by have := HNN.out; simpa using this) HST.out.1 (cbd_set HBA.out HN.out.1 _)).mono ?_; rintro e w5 ⟨b', A', AL', AO', cp', cL', cO', rfl, h1, h2, h3, h4⟩; have H5 := Lib.hid (And.intro h1 (And.intro h2 (And.intro h3 h4))); clear h1 h2 h3 h4)))
  go_ret
  exact ⟨b', A', AL', AO', cp', cL', cO', rfl, Nat.le_trans HST.out.2.size H5.out.1, H5.out.2.1, H5.out.2.2.1, HST.out.2.trans (H5.out.2.2.2.mono HST.out.2.size)⟩

end Go.Proofs.Ythnljaheplhbkaa
