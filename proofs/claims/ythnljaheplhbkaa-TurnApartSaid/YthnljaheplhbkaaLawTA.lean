/- TurnApart, the Go function: it comes out true. -/
import Derived.Test.YthnljaheplhbkaaTurnK
import Derived.Test.YthnljaheplhbkaaHeavyA
import Derived.Test.YthnljaheplhbkaaOneC
import Derived.Test.YthnljaheplhbkaaCompR
import Derived.Lib.QuietBelow
namespace Go.Proofs.Ythnljaheplhbkaa
open Go Go.RowKit
open Go.Sort (grow)
set_option linter.unusedVariables false
set_option linter.unusedSimpArgs false

/-- Two boxes with acts in them. -/
structure AB2 (w W : World) (ca cb : Array Value) : Prop where
  a : Whole W w.heap.size 25 ca
  b : Whole W (w.heap.size + 1) 25 cb
  below : Below w.heap.size w W
theorem AB2.new (w : World) (ca cb : Array Value) : AB2 w ((w.alloc (.cells ca 25)).alloc (.cells cb 25)) ca cb :=
  ⟨(Whole.new w _ ca).alloc _, by have := Whole.new (w.alloc (.cells ca 25)) 25 cb; rwa [World.size_alloc] at this, ((Below.refl _ _).alloc (Nat.le_refl _) _).alloc (by simp) _⟩
theorem AB2.step {w W W' : World} {ca cb : Array Value} (h : AB2 w W ca cb) (hb : Below W.heap.size W W') : AB2 w W' ca cb :=
  ⟨h.a.below hb h.a.lt, h.b.below hb h.b.lt, h.below.trans (hb.mono h.below.size)⟩
theorem AB2.alloc {w W : World} {ca cb : Array Value} (h : AB2 w W ca cb) (o : Obj) : AB2 w (W.alloc o) ca cb := h.step (below_alloc W o)
theorem oneG_bd {g : GV} {c : GC} {m : Int} (h : OneG g c m) : CBd c := ⟨by have := h.v.2.2.1; omega, by have := h.len; omega, by have := h.key; omega, by have := h.s; omega, fun s hs => by have := (h.clean s hs).1; omega⟩
theorem one_is (g : GV) (GL GO : Option Addr) (gl go : Nat) (x : GAct) (AP : Option Addr) (ap : Nat) (AD : Option Addr) (ad : Nat) (w : World) (hv : Vl w g GL GO gl go) (hg : VOk g) (hx : ActOk w x AP ap AD ad) : Calls Try.prog 7 #[.agg #[.int .u8 g.kind, .int .i64 g.num, .string g.str, .slice GL g.items.length gl, .slice GO g.vals.length go], .agg #[.slice AP x.path.length ap, .int .u8 x.kind, .int .i64 x.i, .int .i64 x.j, .int .i64 x.n, .string x.s, .slice AD x.v.length ad]] w (OneIs g w) := one_comp g GL GO gl go x AP ap AD ad w hv hg.1 hg.2.2.1 hx
theorem gc_same' (c : GC) : c.Same c := ⟨rfl, rfl, rfl, rfl, rfl, rfl, by
  unfold samePB
  rw [Lib.allEq_all sameStep c.path c.path rfl (fun j hj => by simp [sameStep])]
  simp, same_refl _⟩

set_option maxRecDepth 100000 in
set_option maxHeartbeats 8000000 in
theorem tapart_true (hi : Nat) (L : Option Addr) (lc : Nat) (ts : List GTok) (x : GAct) (AP : Option Addr) (ap : Nat) (AD : Option Addr) (ad : Nat) (y : GAct) (BP : Option Addr) (bp : Nat) (BD : Option Addr) (bd : Nat) (left : Bool) (w : World) (hT : Toks hi w L ts) (hhi : hi ≤ w.heap.size) (hcap : ts.length ≤ lc) (hm : lc ≤ maxLen) (hr : ∀ t ∈ ts, 0 ≤ t.k ∧ t.k ≤ 255 ∧ 0 ≤ t.m ∧ t.m ≤ 255) (hss : ∀ t ∈ ts, t.s.size ≤ 140737488351232) (hx : ActOk w x AP ap AD ad) (hy : ActOk w y BP bp BD bd) :
    Calls Try.prog 3 #[.slice L ts.length lc, .agg #[.slice AP x.path.length ap, .int .u8 x.kind, .int .i64 x.i, .int .i64 x.j, .int .i64 x.n, .string x.s, .slice AD x.v.length ad], .agg #[.slice BP y.path.length bp, .int .u8 y.kind, .int .i64 y.i, .int .i64 y.j, .int .i64 y.n, .string y.s, .slice BD y.v.length bd], .bool left] w fun e w' => e = .returned (.bool true) ∧ Below w.heap.size w w' := by
  have HHV := Lib.hid (fun W (h : Below w.heap.size w W) => heavy7_any hi L lc ts x AP ap AD ad y BP bp BD bd W (hT.keep (h.mono hhi) (Nat.le_refl _)) (Nat.le_trans hhi h.size) hcap hm (hx.later h) (hy.later h))
  have HBU := Lib.hid (fun W (h : Below w.heap.size w W) => build_A hi L lc ts W hcap hm (Nat.le_trans hhi h.size) (hT.keep (h.mono hhi) (Nat.le_refl _)) hr hss)
  have HON1 := Lib.hid (fun (g : GV) (GL GO : Option Addr) (gl go : Nat) (W : World) (h : Below w.heap.size w W) (hv : Vl W g GL GO gl go) (hg : VOk g) => one_is g GL GO gl go x AP ap AD ad W hv hg (hx.later h))
  have HON2 := Lib.hid (fun (g : GV) (GL GO : Option Addr) (gl go : Nat) (W : World) (h : Below w.heap.size w W) (hv : Vl W g GL GO gl go) (hg : VOk g) => one_is g GL GO gl go y BP bp BD bd W hv hg (hy.later h))
  have HBG := Lib.hid (fun (W : World) (A B : Option Addr) (c d : Nat) (p q : List GStep) (hp : Wy W A c p) (hq : Wy W B d q) => ref_Begins W.heap.size A B c d p q W hp.steps hq.steps (Nat.le_refl _) (Nat.le_trans hp.le hp.cap) (Nat.le_trans hq.le hq.cap))
  unfold AnyBool at HHV
  unfold BuildA at HBU
  unfold OneIs at HON1 HON2
  have H0 := Lib.hid (AB2.new w #[.slice AP x.path.length ap, .int .u8 x.kind, .int .i64 x.i, .int .i64 x.j, .int .i64 x.n, .string x.s, .slice AD x.v.length ad] #[.slice BP y.path.length bp, .int .u8 y.kind, .int .i64 y.i, .int .i64 y.j, .int .i64 y.n, .string y.s, .slice BD y.v.length bd])
  clear hT hhi hcap hm hr hss hx hy
  generalize hn : ts.length = n at *
  clear hn
  go_enter Try.func3, Try.ntmps3
  go_wp2_with (first
    | (go_at_call 4; refine (HHV.out _ H0.out.below).mono ?_; rintro e w1 ⟨bh, rfl, hb⟩; have H1 := Lib.hid (H0.out.step hb); clear hb)
    | (go_at_call 5; refine (tknown_true _).mono ?_; rintro e w2 ⟨rfl, hb⟩; have H2 := Lib.hid (H1.out.step hb); clear hb)
    | (go_at_call 6; refine (HBU.out _ H2.out.below).mono ?_; rintro e w3 ⟨g, GL, GO, gl, go, rfl, hv, hg, hb⟩; have H3 := Lib.hid (H2.out.step hb); have HG := Lib.hid hg; have B3 := Lib.hid (Bx.new (W := w3) (g := g) (AL := GL) (AO := GO) (cL := gl) (cO := go) ⟨hv.1.keep (From.refl _ _) (fun _ _ _ => trivial), hv.2.keep (From.refl _ _) (fun _ _ _ => trivial)⟩); obtain ⟨p0, p1, p2, p3, p4, p5, p6⟩ := act_cells H3.out.a; obtain ⟨q0, q1, q2, q3, q4, q5, q6⟩ := act_cells H3.out.b; replace p0 := fun o => cell_alloc o p0; replace q0 := fun o => cell_alloc o q0; replace p1 := fun o => cell_alloc o p1; replace q1 := fun o => cell_alloc o q1; replace p2 := fun o => cell_alloc o p2; replace q2 := fun o => cell_alloc o q2; replace p3 := fun o => cell_alloc o p3; replace q3 := fun o => cell_alloc o q3; replace p4 := fun o => cell_alloc o p4; replace q4 := fun o => cell_alloc o q4; replace p5 := fun o => cell_alloc o p5; replace q5 := fun o => cell_alloc o q5; replace p6 := fun o => cell_alloc o p6; replace q6 := fun o => cell_alloc o q6; clear hv hg hb)
    | (go_at_call 7; ((with_reducible refine (HON1.out g GL GO gl go _ (H3.out.alloc _).below B3.out.vl HG.out).mono ?_); rintro e w4 ⟨hb, cx, A, AL, AO, cp, cL, cO, m1, rfl, hc, ho⟩; have H4 := Lib.hid ((H3.out.alloc (.cells #[.int .u8 g.kind, .int .i64 g.num, .string g.str, .slice GL g.items.length gl, .slice GO g.vals.length go] 31)).step hb); have B4 := Lib.hid (B3.out.later hb); have C4 := Lib.hid (And.intro hc ho); clear p0 q0 p1 q1 p2 q2 p3 q3 p4 q4 p5 q5 p6 q6; obtain ⟨p0, p1, p2, p3, p4, p5, p6⟩ := act_cells H4.out.a; obtain ⟨q0, q1, q2, q3, q4, q5, q6⟩ := act_cells H4.out.b; replace p0 := fun o => cell_alloc o p0; replace q0 := fun o => cell_alloc o q0; replace p1 := fun o => cell_alloc o p1; replace q1 := fun o => cell_alloc o q1; replace p2 := fun o => cell_alloc o p2; replace q2 := fun o => cell_alloc o q2; replace p3 := fun o => cell_alloc o p3; replace q3 := fun o => cell_alloc o q3; replace p4 := fun o => cell_alloc o p4; replace q4 := fun o => cell_alloc o q4; replace p5 := fun o => cell_alloc o p5; replace q5 := fun o => cell_alloc o q5; replace p6 := fun o => cell_alloc o p6; replace q6 := fun o => cell_alloc o q6; obtain ⟨v0, v1, v2, v3, v4⟩ := B4.out.cellsA; clear hb hc ho))
    | (go_at_call 7; ((with_reducible refine (HON2.out g GL GO gl go _ (H4.out.alloc _).below (B4.out.vl.later (below_alloc _ _)) HG.out).mono ?_); rintro e w5 ⟨hb, cy, B, BL, BO, dp, dL, dO, m2, rfl, hc, ho⟩; have H5 := Lib.hid ((H4.out.alloc (.cells #[.int .u8 cx.kind, .slice A cx.path.length cp, .string cx.key, .int .i64 cx.i, .int .i64 cx.j, .int .i64 cx.n, .int .u8 cx.v.kind, .int .i64 cx.v.num, .string cx.v.str, .slice AL cx.v.items.length cL, .slice AO cx.v.vals.length cO, .string cx.s] 35)).step hb); have X5 := Lib.hid ((Whole.new w4 35 #[.int .u8 cx.kind, .slice A cx.path.length cp, .string cx.key, .int .i64 cx.i, .int .i64 cx.j, .int .i64 cx.n, .int .u8 cx.v.kind, .int .i64 cx.v.num, .string cx.v.str, .slice AL cx.v.items.length cL, .slice AO cx.v.vals.length cO, .string cx.s]).below hb (by simp)); have C5 := Lib.hid (And.intro ((C4.out.1.later (below_alloc w4 _)).later hb) C4.out.2); have D5 := Lib.hid (And.intro hc ho); clear p0 q0 p1 q1 p2 q2 p3 q3 p4 q4 p5 q5 p6 q6; clear v0 v1 v2 v3 v4; obtain ⟨x0, x1, x2, x3, x4, x5, x6, x7, x8, x9, x10, x11, _⟩ := (X5.out.alloc (.cells #[.int .u8 cy.kind, .slice B cy.path.length dp, .string cy.key, .int .i64 cy.i, .int .i64 cy.j, .int .i64 cy.n, .int .u8 cy.v.kind, .int .i64 cy.v.num, .string cy.v.str, .slice BL cy.v.items.length dL, .slice BO cy.v.vals.length dO, .string cy.s] 35)).tw; clear hb hc ho))
    | (go_at_call 8; refine (HBG.out _ _ _ _ _ _ _ (C5.out.1.path.later (below_alloc w5 _)) (D5.out.1.path.later (below_alloc w5 _))).mono ?_; rintro e w6 ⟨rfl, hb⟩; have H6 := Lib.hid ((H5.out.alloc (.cells #[.int .u8 cy.kind, .slice B cy.path.length dp, .string cy.key, .int .i64 cy.i, .int .i64 cy.j, .int .i64 cy.n, .int .u8 cy.v.kind, .int .i64 cy.v.num, .string cy.v.str, .slice BL cy.v.items.length dL, .slice BO cy.v.vals.length dO, .string cy.s] 35)).step hb); have X6 := Lib.hid ((X5.out.alloc (.cells #[.int .u8 cy.kind, .slice B cy.path.length dp, .string cy.key, .int .i64 cy.i, .int .i64 cy.j, .int .i64 cy.n, .int .u8 cy.v.kind, .int .i64 cy.v.num, .string cy.v.str, .slice BL cy.v.items.length dL, .slice BO cy.v.vals.length dO, .string cy.s] 35)).below hb (by have := X5.out.lt; simp; omega)); have Y6 := Lib.hid ((Whole.new w5 35 #[.int .u8 cy.kind, .slice B cy.path.length dp, .string cy.key, .int .i64 cy.i, .int .i64 cy.j, .int .i64 cy.n, .int .u8 cy.v.kind, .int .i64 cy.v.num, .string cy.v.str, .slice BL cy.v.items.length dL, .slice BO cy.v.vals.length dO, .string cy.s]).below hb (by simp)); have C6 := Lib.hid (And.intro ((C5.out.1.later (below_alloc w5 _)).later hb) C5.out.2); have D6 := Lib.hid (And.intro ((D5.out.1.later (below_alloc w5 _)).later hb) D5.out.2); clear x0 x1 x2 x3 x4 x5 x6 x7 x8 x9 x10 x11; obtain ⟨x0, x1, x2, x3, x4, x5, x6, x7, x8, x9, x10, x11, _⟩ := X6.out.tw; obtain ⟨y0, y1, y2, y3, y4, y5, y6, y7, y8, y9, y10, y11, _⟩ := Y6.out.tw; clear hb)
    | (go_at_call 9; refine (turn_apart cx cy _ _ _ _ _ _ _ _ _ _ _ _ w6 C6.out.1 D6.out.1 (oneG_bd C6.out.2) left ‹((m1 == 0) = false ∧ (m2 == 0) = false) ∧ begins cx.path cy.path = false›.2).mono ?_; rintro e w7 ⟨tb, E, EL, EO, ep, eL, eO, rfl, h1, h2, h3, h4⟩; have H7 := Lib.hid (H6.out.step h4); have T7 := Lib.hid (And.intro h2 (And.intro h3 (And.intro (C6.out.1.later h4) (X6.out.below h4 X6.out.lt)))); clear x0 x1 x2 x3 x4 x5 x6 x7 x8 x9 x10 x11 y0 y1 y2 y3 y4 y5 y6 y7 y8 y9 y10 y11 h1 h2 h3 h4))
  all_goals first | (go_ret; first | exact ⟨rfl, H2.out.below⟩ | exact ⟨rfl, (H5.out.alloc _).below⟩ | exact ⟨rfl, H6.out.below⟩) | skip
  obtain ⟨t0, t1, t2, t3, t4, t5, t6, t7, t8, t9, t10, t11, _⟩ := T7.out.1.tw
  obtain ⟨x0, x1, x2, x3, x4, x5, x6, x7, x8, x9, x10, x11, _⟩ := T7.out.2.2.2.tw
  have D1 := Lib.hid (fun (d : Nat) (os : Array Obj) => Calls.regrown_of (bool_det (ref_SameC cx cx E EL EO A AL AO ep eL eO cp cL cO (grow (redrawn w7 d) os) (T7.out.2.1.later (below_regrown w7 d os)) (T7.out.2.2.1.later (below_regrown w7 d os)) (oneG_bd C6.out.2).v (oneG_bd C6.out.2).v) true ⟨fun _ => gc_same' cx, fun _ => rfl⟩))
  replace t0 := cell_regrown t0; replace x0 := cell_regrown x0
  replace t1 := cell_regrown t1; replace x1 := cell_regrown x1
  replace t2 := cell_regrown t2; replace x2 := cell_regrown x2
  replace t3 := cell_regrown t3; replace x3 := cell_regrown x3
  replace t4 := cell_regrown t4; replace x4 := cell_regrown x4
  replace t5 := cell_regrown t5; replace x5 := cell_regrown x5
  replace t6 := cell_regrown t6; replace x6 := cell_regrown x6
  replace t7 := cell_regrown t7; replace x7 := cell_regrown x7
  replace t8 := cell_regrown t8; replace x8 := cell_regrown x8
  replace t9 := cell_regrown t9; replace x9 := cell_regrown x9
  replace t10 := cell_regrown t10; replace x10 := cell_regrown x10
  replace t11 := cell_regrown t11; replace x11 := cell_regrown x11
  refine wp_region_quiet_below (by kernel_rfl) (by kernel_rfl) ?_
  repeat (any_goals (go_big_quiet_step (first | with_reducible exact D1.out _ _)))
  refine wpQuiet_nil ?_
  intro _ hw'
  obtain ⟨⟨dq, osq⟩, hw''⟩ := hw'
  subst hw''
  go_wp2
  go_ret
  exact ⟨rfl, H7.out.below.trans ((below_regrown w7 dq osq).mono H7.out.below.size)⟩
end Go.Proofs.Ythnljaheplhbkaa
