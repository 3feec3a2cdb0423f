/- CompRefuses, the Go function: it comes out true. -/
import Derived.Test.YthnljaheplhbkaaDoorCompSd
import Derived.Test.YthnljaheplhbkaaDoorCompB
import Derived.Test.YthnljaheplhbkaaDoorOneA
import Derived.Test.YthnljaheplhbkaaDoorCompEx
namespace Go.Proofs.YthnljaheplhbkaaDoor
open Go Go.RowKit
set_option linter.unusedVariables false
set_option linter.unusedSimpArgs false

/-- What is asked of a component, as it is. -/
structure BareOk2 (w : World) (x : GB) (B : Option Addr) (bap : Nat) (D : Option Addr) (dap : Nat) : Prop where
  path : Wy w B bap x.path
  keys : ∀ s ∈ x.path, s.key.size ≤ 140737488351232
  toks : Toks w.heap.size w D x.v
  cap : x.v.length ≤ dap ∧ dap ≤ maxLen
  len : x.v.length ≤ 1000000
  rng : ∀ t ∈ x.v, 0 ≤ t.k ∧ t.k ≤ 255 ∧ 0 ≤ t.m ∧ t.m ≤ 255
theorem BareOk2.later {w W : World} {x : GB} {B : Option Addr} {bap : Nat} {D : Option Addr} {dap : Nat} (h : BareOk2 w x B bap D dap) (hb : Below w.heap.size w W) : BareOk2 W x B bap D dap := ⟨h.path.later hb, h.keys, h.toks.keep hb hb.size, h.cap, h.len, h.rng⟩
/-- What Comp makes of it. -/
def CompA (W : World) (e : Ending) (w' : World) : Prop :=
  ∃ (c : GC) (A AL AO : Option Addr) (cp cL cO : Nat), e = .returned (.agg #[.int .u8 c.kind, .slice A c.path.length cp, .string c.key, .int .i64 c.i, .int .i64 c.j, .int .i64 c.n, .int .u8 c.v.kind, .int .i64 c.v.num, .string c.v.str, .slice AL c.v.items.length cL, .slice AO c.v.vals.length cO, .string c.s]) ∧ Cc w' c A AL AO cp cL cO ∧ Small c ∧ Below W.heap.size W w'
theorem comp_A (x : GB) (B : Option Addr) (bap : Nat) (D : Option Addr) (dap : Nat) (w : World) (hx : BareOk2 w x B bap D dap) (hs : x.key.size ≤ 3000 ∧ x.s.size ≤ 3000 ∧ tot x.v ≤ 3000) :
    Calls Tryd.prog 11 #[.agg #[.int .u8 x.kind, .slice B x.path.length bap, .string x.key, .int .i64 x.i, .int .i64 x.j, .int .i64 x.n, .string x.s, .slice D x.v.length dap]] w (CompA w) :=
  (comp_any x B bap D dap w hx.path hx.toks hx.cap.1 hx.cap.2 hx.len hx.rng).mono fun e w' ⟨ga, XL, XO, xl, xo, he, hwa, hpa, hca, hb⟩ => ⟨x.comp ga, B, XL, XO, bap, xl, xo, he, hca, ⟨by show ga.weight ≤ 1000000; omega, by show x.key.size ≤ 1000000; omega, by show x.s.size ≤ 1000000; omega, fun s hs => by have := hx.keys s hs; omega⟩, hb⟩
/-- What Do answers, and what Check says of it. -/
def DoR (g : GV) (c : GC) (w : World) (e : Ending) (w' : World) : Prop := ∃ (y : GV) (BL BO : Option Addr) (dL dO : Nat) (n : Int), e = .returned (.tuple #[.agg #[.int .u8 y.kind, .int .i64 y.num, .string y.str, .slice BL y.items.length dL, .slice BO y.vals.length dO], .int .u16 n]) ∧ Vl w' y BL BO dL dO ∧ ChkIs g c n ∧ y.Sound ∧ y.weight ≤ 10000000 ∧ ((n = 0 ∧ c.Sound) ∨ (n ≠ 0 ∧ y = noG ∧ BL = none ∧ BO = none ∧ dL = 0 ∧ dO = 0)) ∧ Below w.heap.size w w'
theorem comp_DoR (g : GV) (GL GO : Option Addr) (eL eO : Nat) (c : GC) (A AL AO : Option Addr) (cp cL cO : Nat) (w : World) (hg : Vl w g GL GO eL eO) (hc : Cc w c A AL AO cp cL cO) (hgs : VOk g) (hs : Small c) (hT : Tabs w) :
    Calls Tryd.prog 12 #[.agg #[.int .u8 g.kind, .int .i64 g.num, .string g.str, .slice GL g.items.length eL, .slice GO g.vals.length eO], .agg #[.int .u8 c.kind, .slice A c.path.length cp, .string c.key, .int .i64 c.i, .int .i64 c.j, .int .i64 c.n, .int .u8 c.v.kind, .int .i64 c.v.num, .string c.v.str, .slice AL c.v.items.length cL, .slice AO c.v.vals.length cO, .string c.s]] w (DoR g c w) :=
  (comp_DoA g GL GO eL eO c A AL AO cp cL cO w hg hc (by have := hgs.2.2.1; omega) hs hT).mono fun e w' ⟨hb, n, hn, hr⟩ => by
    rcases hr with ⟨h0, he⟩ | ⟨h0, h, y, BL, BO, dL, dO, hget, hck, hput, he, hv⟩
    · exact ⟨noG, none, none, 0, 0, n, he, ⟨by simp [LstV, noG, GV.items], by simp [ObjV, noG, GV.keys, GV.vals]⟩, hn, vok_no.1, by have := vok_no.2.2.1; omega, .inr ⟨h0, rfl, rfl, rfl, rfl, rfl⟩, hb⟩
    · subst h0
      have hcs : c.Sound := by
        rcases hn with ⟨_, h⟩ | ⟨h, _⟩
        · cases h
        · exact h
      refine ⟨y, BL, BO, dL, dO, 0, he, hv, hn, put_sound (doH_sound (get_soundG _ _ _ hgs.1 hget) hcs hck) _ _ _ hgs.1 hput, ?_, .inl ⟨rfl, hcs⟩, hb⟩
      have h1 := put_weight _ _ _ hput
      have h3 := get_weight _ _ _ hget
      have h4 := doH_weight h c
      have h5 := hs.v
      have h6 := hs.k
      have h7 := hs.s
      have h8 := hgs.2.2.1
      omega
theorem comp_CheckA (g : GV) (GL GO : Option Addr) (eL eO : Nat) (c : GC) (A AL AO : Option Addr) (cp cL cO : Nat) (w : World) (n : Int) (hg : Vl w g GL GO eL eO) (hc : Cc w c A AL AO cp cL cO) (hgw : g.weight ≤ 6000) (hs : Small c) (hT : Tabs w) (hn : ChkIs g c n) :
    Calls Tryd.prog 13 #[.agg #[.int .u8 g.kind, .int .i64 g.num, .string g.str, .slice GL g.items.length eL, .slice GO g.vals.length eO], .agg #[.int .u8 c.kind, .slice A c.path.length cp, .string c.key, .int .i64 c.i, .int .i64 c.j, .int .i64 c.n, .int .u8 c.v.kind, .int .i64 c.v.num, .string c.v.str, .slice AL c.v.items.length cL, .slice AO c.v.vals.length cO, .string c.s]] w fun e w' => e = .returned (.int .u16 n) ∧ Below w.heap.size w w' :=
  (comp_Check g GL GO eL eO c A AL AO cp cL cO w hg hc (by omega) (by have := hs.v; omega) (by have := hs.k; omega) (by have := hs.s; omega) hs.pk hT (by
    intro h h3 hw hwk W hb
    have := (parts_weight h).1
    exact text_Check h.str c A AL AO cp cL cO W (by omega) (works3 hwk))).mono fun e w' ⟨m, he, hm, hb⟩ => ⟨by rw [he, chk_one hm hn], hb⟩
theorem comp_SoundA (c : GC) (A AL AO : Option Addr) (cp cL cO : Nat) (w : World) (hc : Cc w c A AL AO cp cL cO) (hs : Small c) (hT : Tabs w) (hcs : c.Sound) :
    Calls Tryd.prog 14 #[.agg #[.int .u8 c.kind, .slice A c.path.length cp, .string c.key, .int .i64 c.i, .int .i64 c.j, .int .i64 c.n, .int .u8 c.v.kind, .int .i64 c.v.num, .string c.v.str, .slice AL c.v.items.length cL, .slice AO c.v.vals.length cO, .string c.s]] w fun e w' => e = .returned (.bool true) ∧ Below w.heap.size w w' :=
  (comp_Sound c A AL AO cp cL cO w hc (by have := hs.v; omega) (by have := hs.k; omega) (by have := hs.s; omega) hs.pk hT).mono fun e w' ⟨b, he, hb, hw⟩ => ⟨by rw [he, hb.2 hcs], hw⟩
/-- A box with a component in it, as it is. -/
structure BB1 (w W : World) (ca : Array Value) : Prop where
  a : Whole W w.heap.size 25 ca
  below : Below w.heap.size w W
theorem BB1.new (w : World) (ca : Array Value) : BB1 w (w.alloc (.cells ca 25)) ca :=
  ⟨Whole.new w _ ca, below_alloc w _⟩
theorem BB1.step {w W W' : World} {ca : Array Value} (h : BB1 w W ca) (hb : Below W.heap.size W W') : BB1 w W' ca :=
  ⟨h.a.below hb h.a.lt, h.below.trans (hb.mono h.below.size)⟩
theorem BB1.alloc {w W : World} {ca : Array Value} (h : BB1 w W ca) (o : Obj) : BB1 w (W.alloc o) ca := h.step (below_alloc W o)
theorem bare_cells {W : World} {b : Nat} {t : TypeId} {a0 a1 a2 a3 a4 a5 a6 a7 : Value} (h : Whole W b t #[a0, a1, a2, a3, a4, a5, a6, a7]) : W.cell? ⟨b, 0, none⟩ = some a0 ∧ W.cell? ⟨b, 1, none⟩ = some a1 ∧ W.cell? ⟨b, 2, none⟩ = some a2 ∧ W.cell? ⟨b, 3, none⟩ = some a3 ∧ W.cell? ⟨b, 4, none⟩ = some a4 ∧ W.cell? ⟨b, 5, none⟩ = some a5 ∧ W.cell? ⟨b, 6, none⟩ = some a6 ∧ W.cell? ⟨b, 7, none⟩ = some a7 :=
  ⟨h.cell 0, h.cell 1, h.cell 2, h.cell 3, h.cell 4, h.cell 5, h.cell 6, h.cell 7⟩
theorem same_noV {W : World} (hv : Vl W noG none none 0 0) :
    Calls Tryd.prog 16 #[.agg #[.int .u8 noG.kind, .int .i64 noG.num, .string noG.str, .slice none noG.items.length 0, .slice none noG.vals.length 0], .agg #[.int .u8 0, .int .i64 0, .string ⟨#[]⟩, .slice none 0 0, .slice none 0 0]] W fun e w' => e = .returned (.bool true) ∧ Below W.heap.size W w' :=
  same_is (g := noG) (CL := none) (CO := none) (eL := 0) (eO := 0) hv hv (by have := vok_no.2.2.1; omega)
set_option maxRecDepth 100000 in
set_option maxHeartbeats 8000000 in
theorem crefuses_true (L : Option Addr) (lc : Nat) (ts : List GTok) (x : GB) (B : Option Addr) (bap : Nat) (D : Option Addr) (dap : Nat) (w : World) (hT : Toks w.heap.size w L ts) (hcap : ts.length ≤ lc) (hm : lc ≤ maxLen) (hr : ∀ t ∈ ts, 0 ≤ t.k ∧ t.k ≤ 255 ∧ 0 ≤ t.m ∧ t.m ≤ 255) (hss : ∀ t ∈ ts, t.s.size ≤ 140737488351232) (hx : BareOk2 w x B bap D dap) (hsum : x.key.size + x.s.size + tot ts + tot x.v ≤ 4398046511104) (hl : ts.length ≤ 2000000) (hU : Tabs w) :
    Calls Tryd.prog 3 #[.slice L ts.length lc, .agg #[.int .u8 x.kind, .slice B x.path.length bap, .string x.key, .int .i64 x.i, .int .i64 x.j, .int .i64 x.n, .string x.s, .slice D x.v.length dap]] w (TrueBelow w) := by
  have HHV := Lib.hid (fun W (h : Below w.heap.size w W) => heavyc_any w.heap.size L lc ts x B bap D dap W (hT.keep h (Nat.le_refl _)) (hx.toks.keep h (Nat.le_refl _)) h.size hsum hl (by have := hx.len; omega))
  have HBU := Lib.hid (fun W (h : Below w.heap.size w W) => build_A w.heap.size L lc ts W hcap hm h.size (hT.keep h (Nat.le_refl _)) hr hss)
  have HKN := Lib.hid (fun W (hb : Below w.heap.size w W) => cknown_true W (hU.below hb (Nat.le_refl _)))
  have HTB := Lib.hid (fun W (hb : Below w.heap.size w W) => hU.below hb (Nat.le_refl _))
  have HCO := Lib.hid (fun (W : World) (h : Below w.heap.size w W) (hs : x.key.size + x.s.size + tot ts + tot x.v ≤ 3000) => comp_A x B bap D dap W (hx.later h) ⟨by omega, by omega, by omega⟩)
  unfold HeavyC at HHV
  unfold BuildA at HBU
  unfold CompA at HCO
  unfold TrueBelow at HKN
  have H0 := Lib.hid (BB1.new w #[.int .u8 x.kind, .slice B x.path.length bap, .string x.key, .int .i64 x.i, .int .i64 x.j, .int .i64 x.n, .string x.s, .slice D x.v.length dap])
  clear hT hcap hm hr hss hx hsum hl hU
  generalize hn : ts.length = n at *
  clear hn
  go_enter Tryd.func3, Tryd.ntmps3
  go_wp2_with (first
    | (go_at_call 8; refine (HHV.out _ H0.out.below).mono ?_; rintro e w1 ⟨bh, rfl, hb, hbh⟩; have H1 := Lib.hid (H0.out.step hb); have HBH := Lib.hid hbh; clear hb hbh)
    | (go_at_call 9; refine (HKN.out _ H1.out.below).mono ?_; rintro e w3 ⟨rfl, hb⟩; have H3 := Lib.hid (H1.out.step hb); clear hb)
    | (go_at_call 10; refine (HBU.out _ H3.out.below).mono ?_; rintro e w4 ⟨g, GL, GO, gl, go, rfl, hv, hg, hb⟩; have H4 := Lib.hid (H3.out.step hb); have HG := Lib.hid hg; have B4 := Lib.hid (Bx.new (W := w4) (g := g) (AL := GL) (AO := GO) (cL := gl) (cO := go) ⟨hv.1.keep (From.refl _ _) (fun _ _ _ => trivial), hv.2.keep (From.refl _ _) (fun _ _ _ => trivial)⟩); obtain ⟨p0, p1, p2, p3, p4, p5, p6, p7⟩ := bare_cells H4.out.a; replace p0 := fun o => cell_alloc o p0; replace p1 := fun o => cell_alloc o p1; replace p2 := fun o => cell_alloc o p2; replace p3 := fun o => cell_alloc o p3; replace p4 := fun o => cell_alloc o p4; replace p5 := fun o => cell_alloc o p5; replace p6 := fun o => cell_alloc o p6; replace p7 := fun o => cell_alloc o p7; clear hv hg hb)
    | (go_at_call 11; have hsz := (HBH.out (by simpa using ‹¬ bh = true›)).1; ((with_reducible refine (HCO.out _ (H4.out.alloc _).below hsz).mono ?_); rintro e w5 ⟨c, A, AL, AO, cp, cL, cO, rfl, hc, hs, hb⟩; have H5 := Lib.hid ((H4.out.alloc (.cells #[.int .u8 g.kind, .int .i64 g.num, .string g.str, .slice GL g.items.length gl, .slice GO g.vals.length go] 31)).step hb); have B5 := Lib.hid (B4.out.later hb); have C5 := Lib.hid (And.intro hc hs); clear p0 p1 p2 p3 p4 p5 p6 p7 hsz; obtain ⟨v0, v1, v2, v3, v4⟩ := B5.out.cellsA; clear hb hc hs))
    | (go_at_call 12; ((with_reducible refine (comp_DoR g GL GO gl go c A AL AO cp cL cO _ (B5.out.vl.later (below_alloc _ _)) (C5.out.1.later (below_alloc _ _)) HG.out C5.out.2 (HTB.out _ (H5.out.alloc _).below)).mono ?_); rintro e w6 ⟨y, YL, YO, yl, yo, m, rfl, hvy, hck, hys, hyw, hcase, hb⟩; have H6 := Lib.hid ((H5.out.alloc (.cells #[.int .u8 c.kind, .slice A c.path.length cp, .string c.key, .int .i64 c.i, .int .i64 c.j, .int .i64 c.n, .int .u8 c.v.kind, .int .i64 c.v.num, .string c.v.str, .slice AL c.v.items.length cL, .slice AO c.v.vals.length cO, .string c.s] 34)).step hb); have B6 := Lib.hid ((B5.out.later (below_alloc w5 (.cells #[.int .u8 c.kind, .slice A c.path.length cp, .string c.key, .int .i64 c.i, .int .i64 c.j, .int .i64 c.n, .int .u8 c.v.kind, .int .i64 c.v.num, .string c.v.str, .slice AL c.v.items.length cL, .slice AO c.v.vals.length cO, .string c.s] 34))).later hb); have X6 := Lib.hid ((Whole.new w5 34 #[.int .u8 c.kind, .slice A c.path.length cp, .string c.key, .int .i64 c.i, .int .i64 c.j, .int .i64 c.n, .int .u8 c.v.kind, .int .i64 c.v.num, .string c.v.str, .slice AL c.v.items.length cL, .slice AO c.v.vals.length cO, .string c.s]).below hb (by simp)); have C6 := Lib.hid ((C5.out.1.later (below_alloc w5 (.cells #[.int .u8 c.kind, .slice A c.path.length cp, .string c.key, .int .i64 c.i, .int .i64 c.j, .int .i64 c.n, .int .u8 c.v.kind, .int .i64 c.v.num, .string c.v.str, .slice AL c.v.items.length cL, .slice AO c.v.vals.length cO, .string c.s] 34))).later hb); have Y6 := Lib.hid (Bx.new hvy); have K6 := Lib.hid (And.intro hck (And.intro hys (And.intro hyw hcase))); clear v0 v1 v2 v3 v4; obtain ⟨v0, v1, v2, v3, v4⟩ := B6.out.cellsA; obtain ⟨x0, x1, x2, x3, x4, x5, x6, x7, x8, x9, x10, x11, _⟩ := (X6.out.alloc (.cells #[.int .u8 y.kind, .int .i64 y.num, .string y.str, .slice YL y.items.length yl, .slice YO y.vals.length yo] 31)).tw; clear hvy hck hys hyw hcase hb))
    | (go_at_call 13; have hgw : g.weight ≤ 6000 := HG.out.2.2.1; ((with_reducible refine (comp_CheckA g GL GO gl go c A AL AO cp cL cO _ m (B6.out.vl.later (below_alloc _ _)) (C6.out.later (below_alloc _ _)) hgw C5.out.2 (HTB.out _ (H6.out.alloc _).below) K6.out.1).mono ?_); rintro e w7 ⟨rfl, hb⟩; have H7 := Lib.hid ((H6.out.alloc (.cells #[.int .u8 y.kind, .int .i64 y.num, .string y.str, .slice YL y.items.length yl, .slice YO y.vals.length yo] 31)).step hb); have X7 := Lib.hid ((X6.out.alloc (.cells #[.int .u8 y.kind, .int .i64 y.num, .string y.str, .slice YL y.items.length yl, .slice YO y.vals.length yo] 31)).below hb (by have := X6.out.lt; simp; omega)); have C7 := Lib.hid ((C6.out.later (below_alloc w6 (.cells #[.int .u8 y.kind, .int .i64 y.num, .string y.str, .slice YL y.items.length yl, .slice YO y.vals.length yo] 31))).later hb); have Y7 := Lib.hid (Y6.out.later hb); clear v0 v1 v2 v3 v4 x0 x1 x2 x3 x4 x5 x6 x7 x8 x9 x10 x11 hgw; obtain ⟨x0, x1, x2, x3, x4, x5, x6, x7, x8, x9, x10, x11, _⟩ := X7.out.tw; obtain ⟨v0, v1, v2, v3, v4⟩ := Y7.out.cells; clear hb))
    | (go_at_call 14; have hcs : c.Sound := (by rcases K6.out.2.2.2 with h | h; exact h.2; exact absurd ‹(m == 0) = true› (by simpa using h.1)); ((with_reducible refine (comp_SoundA c A AL AO cp cL cO _ C7.out C5.out.2 (HTB.out _ H7.out.below) hcs).mono ?_); rintro e w8 ⟨rfl, hb⟩; have H8 := Lib.hid (H7.out.step hb); have Y8 := Lib.hid (Y7.out.later hb); clear v0 v1 v2 v3 v4 x0 x1 x2 x3 x4 x5 x6 x7 x8 x9 x10 x11 hcs; obtain ⟨v0, v1, v2, v3, v4⟩ := Y8.out.cells; clear hb))
    | (go_at_call 15; have hyw : y.weight ≤ 1000000000 := (by have := K6.out.2.2.1; omega); ((with_reducible refine (sound_is Y8.out.vl K6.out.2.1 hyw (HTB.out _ H8.out.below)).mono ?_); rintro e w9 ⟨rfl, hb⟩; have H9 := Lib.hid (H8.out.step hb); clear hb hyw))
    | (go_at_call 16; have hy : y = noG ∧ YL = none ∧ YO = none ∧ yl = 0 ∧ yo = 0 := (by rcases K6.out.2.2.2 with h | h; exact absurd h.1 (by simpa using ‹(m == 0) = false›); exact h.2); obtain ⟨rfl, rfl, rfl, rfl, rfl⟩ := hy; ((with_reducible refine (same_noV Y7.out.vl).mono ?_); rintro e w9 ⟨rfl, hb⟩; have H9 := Lib.hid (H7.out.step hb); clear hb)))
  all_goals first | (go_ret; first | exact ⟨rfl, H3.out.below⟩ | exact ⟨rfl, H9.out.below⟩ | exact ⟨by simp, H9.out.below⟩) | skip
end Go.Proofs.YthnljaheplhbkaaDoor
