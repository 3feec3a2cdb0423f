/- Texts in one: LawXR, LawXD. -/
import Derived.Test.YtamlaknfakaanaaGreatDoorQ38
import Derived.Test.YtamlaknfakaanaaGreatDoorQ44
import Derived.Test.YtamlaknfakaanaaGreatDoorQ16
import Derived.Test.YtamlaknfakaanaaGreatDoorQ45
import Derived.Lib.QuietBelow
import Derived.BigQuiet
import Derived.Deep.QuietTactic
namespace Go.Proofs.YtamlaknfakaanaaGreatDoor
open Go Go.RowKit
set_option linter.unusedVariables false
set_option linter.unusedSimpArgs false
structure BareOk2 (w : World) (x : GB) (B : Option Addr) (bap : Nat) (D : Option Addr) (dap : Nat) : Prop where
  path : Wy w B bap x.path
  keys : ∀ s ∈ x.path, s.key.size ≤ 140737488351232
  toks : Toks w.heap.size w D x.v
  cap : x.v.length ≤ dap ∧ dap ≤ maxLen
  len : x.v.length ≤ 1000000
  rng : ∀ t ∈ x.v, 0 ≤ t.k ∧ t.k ≤ 255 ∧ 0 ≤ t.m ∧ t.m ≤ 255
theorem BareOk2.later {w W : World} {x : GB} {B : Option Addr} {bap : Nat} {D : Option Addr} {dap : Nat} (h : BareOk2 w x B bap D dap) (hb : Below w.heap.size w W) : BareOk2 W x B bap D dap := ⟨h.path.later hb, h.keys, h.toks.keep hb hb.size, h.cap, h.len, h.rng⟩
theorem comp_CheckA (g : GV) (GL GO : Option Addr) (eL eO : Nat) (c : GC) (A AL AO : Option Addr) (cp cL cO : Nat) (w : World) (n : Int) (hg : Vl w g GL GO eL eO) (hc : Cc w c A AL AO cp cL cO) (hgw : g.weight ≤ 6000) (hs : Small c) (hT : Tabs w) (hn : ChkIs g c n) :
    Calls Tryz.prog 13 #[.agg #[.int .u8 g.kind, .int .i64 g.num, .string g.str, .slice GL g.items.length eL, .slice GO g.vals.length eO], .agg #[.int .u8 c.kind, .slice A c.path.length cp, .string c.key, .int .i64 c.i, .int .i64 c.j, .int .i64 c.n, .int .u8 c.v.kind, .int .i64 c.v.num, .string c.v.str, .slice AL c.v.items.length cL, .slice AO c.v.vals.length cO, .string c.s]] w fun e w' => e = .returned (.int .u16 n) ∧ Below w.heap.size w w' :=
  (comp_Check g GL GO eL eO c A AL AO cp cL cO w hg hc (by omega) (by have := hs.v; omega) (by have := hs.k; omega) (by have := hs.s; omega) hs.pk hT (by
    intro h h3 hw hwk W hb
    have := (parts_weight h).1
    exact text_Check h.str c A AL AO cp cL cO W (by omega) (works3 hwk))).mono fun e w' ⟨m, he, hm, hb⟩ => ⟨by rw [he, chk_one hm hn], hb⟩
structure BB1 (w W : World) (ca : Array Value) : Prop where
  a : Whole W w.heap.size 25 ca
  below : Below w.heap.size w W
theorem BB1.new (w : World) (ca : Array Value) : BB1 w (w.alloc (.cells ca 25)) ca :=
  ⟨Whole.new w _ ca, below_alloc w _⟩
theorem BB1.step {w W W' : World} {ca : Array Value} (h : BB1 w W ca) (hb : Below W.heap.size W W') : BB1 w W' ca :=
  ⟨h.a.below hb h.a.lt, h.below.trans (hb.mono h.below.size)⟩
theorem BB1.alloc {w W : World} {ca : Array Value} (h : BB1 w W ca) (o : Obj) : BB1 w (W.alloc o) ca := h.step (below_alloc W o)
theorem bare_cells {W : World} {b : Nat} {t : TypeId} {a0 a1 a2 a3 a4 a5 a6 a7 : Value} (h : Whole W b t #[a0, a1, a2, a3, a4, a5, a6, a7]) : W.cell? ⟨b, 0, none⟩ = some a0 ∧ W.cell? ⟨b, 1, none⟩ = some a1 ∧ W.cell? ⟨b, 2, none⟩ = some a2 ∧ W.cell? ⟨b, 3, none⟩ = some a3 ∧ W.cell? ⟨b, 4, none⟩ = some a4 ∧ W.cell? ⟨b, 5, none⟩ = some a5 ∧ W.cell? ⟨b, 6, none⟩ = some a6 ∧ W.cell? ⟨b, 7, none⟩ = some a7 :=
  ⟨h.cell 0, h.cell 1, h.cell 2, h.cell 3, h.cell 4, h.cell 5, h.cell 6, h.cell 7⟩
end Go.Proofs.YtamlaknfakaanaaGreatDoor

namespace Go.Proofs.YtamlaknfakaanaaGreatDoor
open Go Go.RowKit
open Go.Sort (grow)
set_option linter.unusedVariables false
set_option linter.unusedSimpArgs false
def CompP (W : World) (e : Ending) (w' : World) : Prop :=
  ∃ (c : GC) (A AL AO : Option Addr) (cp cL cO : Nat), e = .returned (.agg #[.int .u8 c.kind, .slice A c.path.length cp, .string c.key, .int .i64 c.i, .int .i64 c.j, .int .i64 c.n, .int .u8 c.v.kind, .int .i64 c.v.num, .string c.v.str, .slice AL c.v.items.length cL, .slice AO c.v.vals.length cO, .string c.s]) ∧ Cc w' c A AL AO cp cL cO ∧ Small c ∧ c.v.Pos ∧ Below W.heap.size W w'
theorem comp_P (x : GB) (B : Option Addr) (bap : Nat) (D : Option Addr) (dap : Nat) (w : World) (hx : BareOk2 w x B bap D dap) (hs : x.key.size ≤ 3000 ∧ x.s.size ≤ 3000 ∧ tot x.v ≤ 3000) :
    Calls Tryz.prog 9 #[.agg #[.int .u8 x.kind, .slice B x.path.length bap, .string x.key, .int .i64 x.i, .int .i64 x.j, .int .i64 x.n, .string x.s, .slice D x.v.length dap]] w (CompP w) :=
  (comp_any x B bap D dap w hx.path hx.toks hx.cap.1 hx.cap.2 hx.len hx.rng).mono fun e w' ⟨ga, XL, XO, xl, xo, he, hwa, hpa, hca, hb⟩ => ⟨x.comp ga, B, XL, XO, bap, xl, xo, he, hca, ⟨by show ga.weight ≤ 1000000; omega, by show x.key.size ≤ 1000000; omega, by show x.s.size ≤ 1000000; omega, fun s hs => by have := hx.keys s hs; omega⟩, hpa, hb⟩
set_option maxRecDepth 100000 in
set_option maxHeartbeats 8000000 in
theorem cdoes_true (L : Option Addr) (lc : Nat) (ts : List GTok) (x : GB) (B : Option Addr) (bap : Nat) (D : Option Addr) (dap : Nat) (w : World) (hT : Toks w.heap.size w L ts) (hcap : ts.length ≤ lc) (hm : lc ≤ maxLen) (hr : ∀ t ∈ ts, 0 ≤ t.k ∧ t.k ≤ 255 ∧ 0 ≤ t.m ∧ t.m ≤ 255) (hss : ∀ t ∈ ts, t.s.size ≤ 140737488351232) (hx : BareOk2 w x B bap D dap) (hsum : x.key.size + x.s.size + tot ts + tot x.v ≤ 4398046511104) (hl : ts.length ≤ 2000000) (hU : Tabs w) :
    Calls Tryz.prog 3 #[.slice L ts.length lc, .agg #[.int .u8 x.kind, .slice B x.path.length bap, .string x.key, .int .i64 x.i, .int .i64 x.j, .int .i64 x.n, .string x.s, .slice D x.v.length dap]] w (TrueBelow w) := by
  have HHV := Lib.hid (fun W (h : Below w.heap.size w W) => heavyc_any w.heap.size L lc ts x B bap D dap W (hT.keep h (Nat.le_refl _)) (hx.toks.keep h (Nat.le_refl _)) h.size hsum hl (by have := hx.len; omega))
  have HBU := Lib.hid (fun W (h : Below w.heap.size w W) => build_A w.heap.size L lc ts W hcap hm h.size (hT.keep h (Nat.le_refl _)) hr hss)
  have HKN := Lib.hid (fun W (hb : Below w.heap.size w W) => cknown_true W (hU.below hb (Nat.le_refl _)))
  have HTB := Lib.hid (fun W (hb : Below w.heap.size w W) => hU.below hb (Nat.le_refl _))
  have HCO := Lib.hid (fun (W : World) (h : Below w.heap.size w W) (hs : x.key.size + x.s.size + tot ts + tot x.v ≤ 3000) => comp_P x B bap D dap W (hx.later h) ⟨by omega, by omega, by omega⟩)
  unfold HeavyC at HHV
  unfold BuildA at HBU
  unfold CompP at HCO
  unfold TrueBelow at HKN
  have H0 := Lib.hid (BB1.new w #[.int .u8 x.kind, .slice B x.path.length bap, .string x.key, .int .i64 x.i, .int .i64 x.j, .int .i64 x.n, .string x.s, .slice D x.v.length dap])
  clear hT hcap hm hr hss hx hsum hl hU
  generalize hn : ts.length = n at *
  clear hn
  go_enter Tryz.func3, Tryz.ntmps3
  go_wp2_with (first
    | (go_at_call 5; refine (HHV.out _ H0.out.below).mono ?_; rintro e w1 ⟨bh, rfl, hb, hbh⟩; have H1 := Lib.hid (H0.out.step hb); have HBH := Lib.hid hbh; clear hb hbh)
    | (go_at_call 6; refine (HKN.out _ H1.out.below).mono ?_; rintro e w3 ⟨rfl, hb⟩; have H3 := Lib.hid (H1.out.step hb); clear hb)
    | (go_at_call 7; refine (HBU.out _ H3.out.below).mono ?_; rintro e w4 ⟨g, GL, GO, gl, go, rfl, hv, hg, hb⟩; have H4 := Lib.hid ((H3.out.step hb).alloc (.cells #[.int .u8 g.kind, .int .i64 g.num, .string g.str, .slice GL g.items.length gl, .slice GO g.vals.length go] 31)); have HG := Lib.hid hg; have B4 := Lib.hid (Bx.new (W := w4) (g := g) (AL := GL) (AO := GO) (cL := gl) (cO := go) ⟨hv.1.keep (From.refl _ _) (fun _ _ _ => trivial), hv.2.keep (From.refl _ _) (fun _ _ _ => trivial)⟩); clear hv hg hb)
    | (go_at_call 8; have hgw : g.weight ≤ 1000000000 := (by have := HG.out.2.2.1; omega); ((with_reducible refine (copy_is B4.out.vl hgw).mono ?_); clear hgw; rintro e w5 ⟨WL, WO, wl, wo, rfl, hv, hb⟩; have H5 := Lib.hid ((H4.out.step hb).alloc (.cells #[.int .u8 g.kind, .int .i64 g.num, .string g.str, .slice WL g.items.length wl, .slice WO g.vals.length wo] 31)); have B5 := Lib.hid ((B4.out.later hb).later (below_alloc w5 (.cells #[.int .u8 g.kind, .int .i64 g.num, .string g.str, .slice WL g.items.length wl, .slice WO g.vals.length wo] 31))); have W5 := Lib.hid (Bx.new hv); obtain ⟨p0, p1, p2, p3, p4, p5, p6, p7⟩ := bare_cells H5.out.a; clear hv hb))
    | (go_at_call 9; have hsz := (HBH.out (by simpa using ‹¬ bh = true›)).1; ((with_reducible refine (HCO.out _ H5.out.below hsz).mono ?_); rintro e w6 ⟨c, A, AL, AO, cp, cL, cO, rfl, hc, hs, hpos, hb⟩; have H6 := Lib.hid ((H5.out.step hb).alloc (.cells #[.int .u8 c.kind, .slice A c.path.length cp, .string c.key, .int .i64 c.i, .int .i64 c.j, .int .i64 c.n, .int .u8 c.v.kind, .int .i64 c.v.num, .string c.v.str, .slice AL c.v.items.length cL, .slice AO c.v.vals.length cO, .string c.s] 35)); have B6 := Lib.hid ((B5.out.later hb).later (below_alloc w6 (.cells #[.int .u8 c.kind, .slice A c.path.length cp, .string c.key, .int .i64 c.i, .int .i64 c.j, .int .i64 c.n, .int .u8 c.v.kind, .int .i64 c.v.num, .string c.v.str, .slice AL c.v.items.length cL, .slice AO c.v.vals.length cO, .string c.s] 35))); have W6 := Lib.hid ((W5.out.later hb).later (below_alloc w6 (.cells #[.int .u8 c.kind, .slice A c.path.length cp, .string c.key, .int .i64 c.i, .int .i64 c.j, .int .i64 c.n, .int .u8 c.v.kind, .int .i64 c.v.num, .string c.v.str, .slice AL c.v.items.length cL, .slice AO c.v.vals.length cO, .string c.s] 35))); have C6 := Lib.hid (And.intro (hc.later (below_alloc w6 (.cells #[.int .u8 c.kind, .slice A c.path.length cp, .string c.key, .int .i64 c.i, .int .i64 c.j, .int .i64 c.n, .int .u8 c.v.kind, .int .i64 c.v.num, .string c.v.str, .slice AL c.v.items.length cL, .slice AO c.v.vals.length cO, .string c.s] 35))) (Whole.new w6 35 #[.int .u8 c.kind, .slice A c.path.length cp, .string c.key, .int .i64 c.i, .int .i64 c.j, .int .i64 c.n, .int .u8 c.v.kind, .int .i64 c.v.num, .string c.v.str, .slice AL c.v.items.length cL, .slice AO c.v.vals.length cO, .string c.s])); have S6 := Lib.hid (And.intro hs hpos); clear p0 p1 p2 p3 p4 p5 p6 p7 hsz hb hc hs hpos; obtain ⟨v0, v1, v2, v3, v4⟩ := B6.out.cells; obtain ⟨y, m, ho⟩ := outc_some g c; have HO := Lib.hid ho; clear ho))
    | (go_at_call 10; have hgw : g.weight ≤ 1000000 := (by have := HG.out.2.2.1; omega); ((with_reducible refine (comp_DoO g GL GO gl go c A AL AO cp cL cO _ B6.out.vl C6.out.1 hgw S6.out.1 (HTB.out _ H6.out.below) HO.out).mono ?_); clear hgw; rintro e w7 ⟨XL, XO, xl, xo, rfl, hv, hb⟩; have H7 := Lib.hid ((H6.out.step hb).alloc (.cells #[.int .u8 y.kind, .int .i64 y.num, .string y.str, .slice XL y.items.length xl, .slice XO y.vals.length xo] 31)); have B7 := Lib.hid ((B6.out.later hb).later (below_alloc w7 (.cells #[.int .u8 y.kind, .int .i64 y.num, .string y.str, .slice XL y.items.length xl, .slice XO y.vals.length xo] 31))); have W7 := Lib.hid ((W6.out.later hb).later (below_alloc w7 (.cells #[.int .u8 y.kind, .int .i64 y.num, .string y.str, .slice XL y.items.length xl, .slice XO y.vals.length xo] 31))); have C7 := Lib.hid (And.intro ((C6.out.1.later hb).later (below_alloc w7 (.cells #[.int .u8 y.kind, .int .i64 y.num, .string y.str, .slice XL y.items.length xl, .slice XO y.vals.length xo] 31))) ((C6.out.2.below hb C6.out.2.lt).alloc (.cells #[.int .u8 y.kind, .int .i64 y.num, .string y.str, .slice XL y.items.length xl, .slice XO y.vals.length xo] 31))); have X7 := Lib.hid (Bx.new hv.vl); clear v0 v1 v2 v3 v4 hv hb; obtain ⟨v0, v1, v2, v3, v4⟩ := W7.out.cells; obtain ⟨c0, c1, c2, c3, c4, c5, c6, c7, c8, c9, c10, c11, _⟩ := C7.out.2.tw))
    | (go_at_call 11; have hgw : g.weight ≤ 1000000 := (by have := HG.out.2.2.1; omega); have hgs : g.Sound := HG.out.1; ((with_reducible refine (ref_DoO g WL WO wl wo c A AL AO cp cL cO _ W7.out.vl C7.out.1 hgw S6.out.1 S6.out.2 hgs (HTB.out _ H7.out.below) HO.out).mono ?_); clear hgw hgs; rintro e w8 ⟨YL, YO, yl, yo, rfl, hv, hb⟩; have H8 := Lib.hid ((H7.out.step hb).alloc (.cells #[.int .u8 y.kind, .int .i64 y.num, .string y.str, .slice YL y.items.length yl, .slice YO y.vals.length yo] 31)); have B8 := Lib.hid ((B7.out.later hb).later (below_alloc w8 (.cells #[.int .u8 y.kind, .int .i64 y.num, .string y.str, .slice YL y.items.length yl, .slice YO y.vals.length yo] 31))); have W8 := Lib.hid ((W7.out.later hb).later (below_alloc w8 (.cells #[.int .u8 y.kind, .int .i64 y.num, .string y.str, .slice YL y.items.length yl, .slice YO y.vals.length yo] 31))); have C8 := Lib.hid (And.intro ((C7.out.1.later hb).later (below_alloc w8 (.cells #[.int .u8 y.kind, .int .i64 y.num, .string y.str, .slice YL y.items.length yl, .slice YO y.vals.length yo] 31))) ((C7.out.2.below hb C7.out.2.lt).alloc (.cells #[.int .u8 y.kind, .int .i64 y.num, .string y.str, .slice YL y.items.length yl, .slice YO y.vals.length yo] 31))); have X8 := Lib.hid ((X7.out.later hb).later (below_alloc w8 (.cells #[.int .u8 y.kind, .int .i64 y.num, .string y.str, .slice YL y.items.length yl, .slice YO y.vals.length yo] 31))); have Y8 := Lib.hid (Bx.new hv.vl); clear v0 v1 v2 v3 v4 c0 c1 c2 c3 c4 c5 c6 c7 c8 c9 c10 c11 hv hb)))
  any_goals (go_ret; exact ⟨rfl, H3.out.below⟩)
  generalize (w8.alloc (.cells #[.int .u8 y.kind, .int .i64 y.num, .string y.str, .slice YL y.items.length yl, .slice YO y.vals.length yo] 31)) = Wx at *
  have hgw := HG.out.2.2.1
  have hyw := HO.out.weight S6.out.1
  have hrg := chk_range HO.out.1
  have hwm : IntKind.i64.wrap m = m := IntWalk.i64_in _ (by omega)
  have D1 := Lib.hid (fun (d : Nat) (os : Array Obj) => Calls.regrown_of (w := Wx) (same_is (X8.out.vl.later (below_regrown Wx d os)) (Y8.out.vl.later (below_regrown Wx d os)) (by omega)))
  have D2 := Lib.hid (fun (d : Nat) (os : Array Obj) => Calls.regrown_of (w := Wx) (comp_CheckA g GL GO gl go c A AL AO cp cL cO (grow (redrawn Wx d) os) m (B8.out.vl.later (below_regrown Wx d os)) (C8.out.1.later (below_regrown Wx d os)) hgw S6.out.1 ((HTB.out _ H8.out.below).below (below_regrown Wx d os) (Nat.le_refl _)) HO.out.1))
  have D3 := Lib.hid (fun (d : Nat) (os : Array Obj) => Calls.regrown_of (w := Wx) ((ref_CheckC g WL WO wl wo c A AL AO cp cL cO (grow (redrawn Wx d) os) (W8.out.vl.later (below_regrown Wx d os)) (C8.out.1.later (below_regrown Wx d os)) (by omega) S6.out.1 S6.out.2 ((HTB.out _ H8.out.below).below (below_regrown Wx d os) (Nat.le_refl _))).mono (R' := fun e w' => e = .returned (.int .i64 m) ∧ Below (grow (redrawn Wx d) os).heap.size (grow (redrawn Wx d) os) w') fun e w' ⟨m', he, hm', hb⟩ => ⟨by rw [he, chk_one hm' HO.out.1], hb⟩))
  have D4 := Lib.hid (fun (d : Nat) (os : Array Obj) => Calls.regrown_of (w := Wx) (same_is (B8.out.vl.later (below_regrown Wx d os)) (W8.out.vl.later (below_regrown Wx d os)) (by omega)))
  obtain ⟨a0, a1, a2, a3, a4⟩ := X8.out.cells
  obtain ⟨b0, b1, b2, b3, b4⟩ := Y8.out.cells
  obtain ⟨v0, v1, v2, v3, v4⟩ := B8.out.cells
  obtain ⟨u0, u1, u2, u3, u4⟩ := W8.out.cells
  obtain ⟨c0, c1, c2, c3, c4, c5, c6, c7, c8, c9, c10, c11, _⟩ := C8.out.2.tw
  replace a0 := cell_regrown a0
  replace a1 := cell_regrown a1
  replace a2 := cell_regrown a2
  replace a3 := cell_regrown a3
  replace a4 := cell_regrown a4
  replace b0 := cell_regrown b0
  replace b1 := cell_regrown b1
  replace b2 := cell_regrown b2
  replace b3 := cell_regrown b3
  replace b4 := cell_regrown b4
  replace v0 := cell_regrown v0
  replace v1 := cell_regrown v1
  replace v2 := cell_regrown v2
  replace v3 := cell_regrown v3
  replace v4 := cell_regrown v4
  replace u0 := cell_regrown u0
  replace u1 := cell_regrown u1
  replace u2 := cell_regrown u2
  replace u3 := cell_regrown u3
  replace u4 := cell_regrown u4
  replace c0 := cell_regrown c0
  replace c1 := cell_regrown c1
  replace c2 := cell_regrown c2
  replace c3 := cell_regrown c3
  replace c4 := cell_regrown c4
  replace c5 := cell_regrown c5
  replace c6 := cell_regrown c6
  replace c7 := cell_regrown c7
  replace c8 := cell_regrown c8
  replace c9 := cell_regrown c9
  replace c10 := cell_regrown c10
  replace c11 := cell_regrown c11
  have HB := Lib.hid H8.out.below
  clear HHV HBU HKN HTB HCO H0 H1 HBH H3 H4 HG B4 H5 B5 W5 H6 B6 W6 C6 S6 HO H7 B7 W7 C7 X7 H8 B8 W8 C8 X8 Y8 hgw hyw hrg
  refine wp_region_quiet_below (by kernel_rfl) (by kernel_rfl) ?_
  repeat (any_goals (go_big_quiet_step (first | with_reducible exact D1.out _ _ | with_reducible exact D2.out _ _ | with_reducible exact D3.out _ _ | with_reducible exact D4.out _ _)))
  refine wpQuiet_nil ?_
  intro _ hw'
  obtain ⟨⟨dq, osq⟩, hw''⟩ := hw'
  subst hw''
  go_wp2
  go_ret
  exact ⟨rfl, HB.out.trans ((below_regrown Wx dq osq).mono HB.out.size)⟩
end Go.Proofs.YtamlaknfakaanaaGreatDoor

