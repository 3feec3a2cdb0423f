/- CompApart, the Go function: it comes out true. -/
import Derived.Test.YthnljaheplhbkaaDoorOneF
import Derived.Test.YthnljaheplhbkaaDoorHeavyX
import Derived.Test.YthnljaheplhbkaaDoorCompEx
import Derived.Test.YthnljaheplhbkaaDoorApart
import Derived.Lib.QuietBelow
namespace Go.Proofs.YthnljaheplhbkaaDoor
open Go Go.RowKit
open Go.Sort (grow)
set_option linter.unusedVariables false
set_option linter.unusedSimpArgs false

/-- A box with an act in it. -/
structure AB1 (w W : World) (ca : Array Value) : Prop where
  a : Whole W w.heap.size 46 ca
  below : Below w.heap.size w W
theorem AB1.new (w : World) (ca : Array Value) : AB1 w (w.alloc (.cells ca 46)) ca :=
  ⟨Whole.new w _ ca, below_alloc w _⟩
theorem AB1.step {w W W' : World} {ca : Array Value} (h : AB1 w W ca) (hb : Below W.heap.size W W') : AB1 w W' ca :=
  ⟨h.a.below hb h.a.lt, h.below.trans (hb.mono h.below.size)⟩
theorem AB1.alloc {w W : World} {ca : Array Value} (h : AB1 w W ca) (o : Obj) : AB1 w (W.alloc o) ca := h.step (below_alloc W o)
/-- What is done apart from a path leaves what is there. -/
theorem does_apart {g : GV} {c : GC} {w w' : World} {e : Ending} {q : List GStep} {h : GV} (hd : DoesOut g c w e w') (o : OneG g c 1) (hg : VOk g) (hq : g.get q = some h) (hcq : ∀ s ∈ q, Clean s) (b1 : begins q c.path = false) (b2 : begins c.path q = false) :
    ∃ (y : GV) (BL BO : Option Addr) (dL dO : Nat), e = .returned (.tuple #[.agg #[.int .u8 y.kind, .int .i64 y.num, .string y.str, .slice BL y.items.length dL, .slice BO y.vals.length dO], .int .u16 0]) ∧ Vl w' y BL BO dL dO ∧ y.get q = some h ∧ y.weight ≤ 1000000 ∧ Below w.heap.size w w' := by
  obtain ⟨hb, n, hn, hr⟩ := hd
  obtain ⟨hs, h1, hget, hck⟩ := fit_ok o hg.1 hg.2.2.2
  have hn0 : n = 0 := chk_one hn (.inr ⟨hs, .inr ⟨h1, hget, hck.symm⟩⟩)
  rcases hr with hr | ⟨_, h2, y, BL, BO, dL, dO, hget2, hck2, hput, he, hv⟩
  · exact absurd hn0 hr.1
  · refine ⟨y, BL, BO, dL, dO, he, hv, put_apart _ _ _ _ _ o.clean hcq hput hq b2 b1, ?_, hb⟩
    have h1 := put_weight _ _ _ hput
    have h3 := get_weight _ _ _ hget2
    have h4 := doH_weight h2 c
    have h5 := o.v.2.2.1
    have h6 := o.key
    have h7 := o.s
    have h8 := hg.2.2.1
    omega
theorem one_of {g : GV} {c : GC} {m : Int} (h : OneG g c m) (hm : ¬ m = 0) : OneG g c 1 :=
  ⟨h.len, h.clean, h.v, h.key, h.s, by
    rcases h.fits with e | e
    · exact absurd e hm
    · exact .inr ⟨rfl, e.2⟩⟩
theorem one_is6 (g : GV) (GL GO : Option Addr) (gl go : Nat) (x : GAct) (AP : Option Addr) (ap : Nat) (AD : Option Addr) (ad : Nat) (w : World) (hv : Vl w g GL GO gl go) (hg : VOk g) (hx : ActOk w x AP ap AD ad) : Calls Tryd.prog 18 #[.agg #[.int .u8 g.kind, .int .i64 g.num, .string g.str, .slice GL g.items.length gl, .slice GO g.vals.length go], .agg #[.slice AP x.path.length ap, .int .u8 x.kind, .int .i64 x.i, .int .i64 x.j, .int .i64 x.n, .string x.s, .slice AD x.v.length ad]] w (OneIs g w) := one_comp g GL GO gl go x AP ap AD ad w hv hg.1 hg.2.2.1 hx
set_option maxRecDepth 100000 in
set_option maxHeartbeats 8000000 in
theorem capart_true (hi : Nat) (L : Option Addr) (lc : Nat) (ts : List GTok) (x : GAct) (AP : Option Addr) (ap : Nat) (AD : Option Addr) (ad : Nat) (A2 : Option Addr) (c2 : Nat) (bs : List Int) (w : World) (hT : Toks hi w L ts) (hhi : hi ≤ w.heap.size) (hcap : ts.length ≤ lc) (hm : lc ≤ maxLen) (hr : ∀ t ∈ ts, 0 ≤ t.k ∧ t.k ≤ 255 ∧ 0 ≤ t.m ∧ t.m ≤ 255) (hss : ∀ t ∈ ts, t.s.size ≤ 140737488351232) (hx : ActOk w x AP ap AD ad) (hB : Bytes hi w A2 bs) (hb255 : ∀ x ∈ bs, 0 ≤ x ∧ x ≤ 255) (hl2 : bs.length ≤ c2) (hm2 : c2 ≤ maxLen) (hU : Tabs w) :
    Calls Tryd.prog 4 #[.slice L ts.length lc, .agg #[.slice AP x.path.length ap, .int .u8 x.kind, .int .i64 x.i, .int .i64 x.j, .int .i64 x.n, .string x.s, .slice AD x.v.length ad], .slice A2 bs.length c2] w (TrueBelow w) := by
  have HHV := Lib.hid (fun W (h : Below w.heap.size w W) => heavyz_any hi L lc ts W (hT.keep (h.mono hhi) (Nat.le_refl _)) (Nat.le_trans hhi h.size) hcap hm)
  have HBU := Lib.hid (fun W (h : Below w.heap.size w W) => build_A hi L lc ts W hcap hm (Nat.le_trans hhi h.size) (hT.keep (h.mono hhi) (Nat.le_refl _)) hr hss)
  have HKN := Lib.hid (fun W (hb : Below w.heap.size w W) => cknown_true W (hU.below hb (Nat.le_refl _)))
  have HTB := Lib.hid (fun W (hb : Below w.heap.size w W) => hU.below hb (Nat.le_refl _))
  have HAC := Lib.hid (fun W (h : Below w.heap.size w W) => hx.later h)
  have HON := Lib.hid (fun (g : GV) (GL GO : Option Addr) (gl go : Nat) (W : World) (h : Below w.heap.size w W) (hv : Vl W g GL GO gl go) (hg : VOk g) => one_is6 g GL GO gl go x AP ap AD ad W hv hg (hx.later h))
  have HWK := Lib.hid (fun (W : World) (g : GV) (AL AO : Option Addr) (cL cO : Nat) (hb : Below w.heap.size w W) (hv : Vl W g AL AO cL cO) (hg : VOk g) => walk_is hv hg.1 (by have := hg.2.2.1; omega) hi A2 c2 bs (hB.keep (hb.mono hhi) (Nat.le_refl _)) hb255 (Nat.le_trans hhi hb.size) hl2 hm2)
  have HBG := Lib.hid (fun (W : World) (A B : Option Addr) (c d : Nat) (p q : List GStep) (hp : Wy W A c p) (hq : Wy W B d q) => ref_Begins W.heap.size A B c d p q W hp.steps hq.steps (Nat.le_refl _) (Nat.le_trans hp.le hp.cap) (Nat.le_trans hq.le hq.cap))
  unfold AnyBool at HHV
  unfold BuildA at HBU
  unfold OneIs at HON
  unfold WalkIs at HWK
  unfold TrueBelow at HKN
  have H0 := Lib.hid (AB1.new w #[.slice AP x.path.length ap, .int .u8 x.kind, .int .i64 x.i, .int .i64 x.j, .int .i64 x.n, .string x.s, .slice AD x.v.length ad])
  have hbl : bs.length ≤ 9223372036854775807 := by unfold maxLen at hm2; omega
  clear hT hhi hcap hm hr hss hx hB hb255 hl2 hm2 hU
  generalize hn : ts.length = n at *
  clear hn
  generalize hn2 : bs.length = n2 at *
  clear hn2
  go_enter Tryd.func4, Tryd.ntmps4
  go_wp2_with (first
    | (go_at_call 8; refine (HHV.out _ H0.out.below).mono ?_; rintro e w1 ⟨bh, rfl, hb⟩; have H1 := Lib.hid (H0.out.step hb); clear hb; obtain ⟨p0, p1, p2, p3, p4, p5, p6⟩ := act_cells H1.out.a)
    | (go_at_call 17; refine (Heavy_any [⟨x, AP, ap, AD, ad⟩] w1.heap.size 1 _ (fun i e he => by
          match i, he with
          | 0, he => simp at he; subst he; exact ⟨(Whole.new w1 _ _).cell 0, (Whole.new w1 _ _).cell 5, (Whole.new w1 _ _).cell 6⟩
          | i + 1, he => simp at he) (by simp) (fun e he => by
          simp only [List.mem_cons, List.mem_nil_iff, or_false] at he
          subst he
          exact HAC.out _ (H1.out.alloc _).below) (by simp) (by simp)).mono ?_; rintro e w2 ⟨z1, rfl, hb⟩; have H2 := Lib.hid ((H1.out.alloc _).step hb); clear hb p0 p1 p2 p3 p4 p5 p6)
    | (go_at_call 9; refine (HKN.out _ H2.out.below).mono ?_; rintro e w3 ⟨rfl, hb⟩; have H3 := Lib.hid (H2.out.step hb); clear hb)
    | (go_at_call 9; refine (HKN.out _ H1.out.below).mono ?_; rintro e w3 ⟨rfl, hb⟩; have H3 := Lib.hid (H1.out.step hb); clear hb)
    | (go_at_call 10; refine (HBU.out _ H3.out.below).mono ?_; rintro e w4 ⟨g, GL, GO, gl, go, rfl, hv, hg, hb⟩; have H4 := Lib.hid (H3.out.step hb); have HG := Lib.hid hg; have B4 := Lib.hid (Bx.new (W := w4) (g := g) (AL := GL) (AO := GO) (cL := gl) (cO := go) ⟨hv.1.keep (From.refl _ _) (fun _ _ _ => trivial), hv.2.keep (From.refl _ _) (fun _ _ _ => trivial)⟩); obtain ⟨p0, p1, p2, p3, p4, p5, p6⟩ := act_cells H4.out.a; replace p0 := fun o => cell_alloc o p0; replace p1 := fun o => cell_alloc o p1; replace p2 := fun o => cell_alloc o p2; replace p3 := fun o => cell_alloc o p3; replace p4 := fun o => cell_alloc o p4; replace p5 := fun o => cell_alloc o p5; replace p6 := fun o => cell_alloc o p6; clear hv hg hb)
    | (go_at_call 18; ((with_reducible refine (HON.out g GL GO gl go _ (H4.out.alloc _).below B4.out.vl HG.out).mono ?_); rintro e w5 ⟨hb, c, A, AL, AO, cp, cL, cO, m1, rfl, hc, ho⟩; have H5 := Lib.hid ((H4.out.alloc (.cells #[.int .u8 g.kind, .int .i64 g.num, .string g.str, .slice GL g.items.length gl, .slice GO g.vals.length go] 31)).step hb); have B5 := Lib.hid (B4.out.later hb); have C5 := Lib.hid (And.intro hc ho); clear p0 p1 p2 p3 p4 p5 p6; obtain ⟨v0, v1, v2, v3, v4⟩ := B5.out.cellsA; clear hb hc ho))
    | (go_at_call 19; ((with_reducible refine (HWK.out _ g GL GO gl go (H5.out.alloc _).below (B5.out.vl.later (below_alloc _ _)) HG.out).mono ?_); rintro e w6 ⟨Q, qc, qs, hq, rfl, hwy, hgq, hlen, hb⟩; have H6 := Lib.hid ((H5.out.alloc (.cells #[.int .u8 c.kind, .slice A c.path.length cp, .string c.key, .int .i64 c.i, .int .i64 c.j, .int .i64 c.n, .int .u8 c.v.kind, .int .i64 c.v.num, .string c.v.str, .slice AL c.v.items.length cL, .slice AO c.v.vals.length cO, .string c.s] 34)).step hb); have B6 := Lib.hid ((B5.out.later (below_alloc w5 (.cells #[.int .u8 c.kind, .slice A c.path.length cp, .string c.key, .int .i64 c.i, .int .i64 c.j, .int .i64 c.n, .int .u8 c.v.kind, .int .i64 c.v.num, .string c.v.str, .slice AL c.v.items.length cL, .slice AO c.v.vals.length cO, .string c.s] 34))).later hb); have X6 := Lib.hid ((Whole.new w5 34 #[.int .u8 c.kind, .slice A c.path.length cp, .string c.key, .int .i64 c.i, .int .i64 c.j, .int .i64 c.n, .int .u8 c.v.kind, .int .i64 c.v.num, .string c.v.str, .slice AL c.v.items.length cL, .slice AO c.v.vals.length cO, .string c.s]).below hb (by simp)); have C6 := Lib.hid (And.intro ((C5.out.1.later (below_alloc w5 (.cells #[.int .u8 c.kind, .slice A c.path.length cp, .string c.key, .int .i64 c.i, .int .i64 c.j, .int .i64 c.n, .int .u8 c.v.kind, .int .i64 c.v.num, .string c.v.str, .slice AL c.v.items.length cL, .slice AO c.v.vals.length cO, .string c.s] 34))).later hb) C5.out.2); have Q6 := Lib.hid (And.intro hwy (And.intro hgq hlen.2)); clear v0 v1 v2 v3 v4; obtain ⟨x0, x1, x2, x3, x4, x5, x6, x7, x8, x9, x10, x11, _⟩ := X6.out.tw; clear hwy hgq hlen hb))
    | (go_at_call 20; ((with_reducible refine (HBG.out _ _ _ _ _ _ _ Q6.out.1 C6.out.1.path).mono ?_); rintro e w7 ⟨rfl, hb⟩; have H7 := Lib.hid (H6.out.step hb); have B7 := Lib.hid (B6.out.later hb); have X7 := Lib.hid (X6.out.below hb X6.out.lt); have C7 := Lib.hid (And.intro (C6.out.1.later hb) C6.out.2); have Q7 := Lib.hid (And.intro (Q6.out.1.later hb) Q6.out.2); clear x0 x1 x2 x3 x4 x5 x6 x7 x8 x9 x10 x11; obtain ⟨x0, x1, x2, x3, x4, x5, x6, x7, x8, x9, x10, x11, _⟩ := X7.out.tw; clear hb))
    | (go_at_call 20; ((with_reducible refine (HBG.out _ _ _ _ _ _ _ C7.out.1.path Q7.out.1).mono ?_); rintro e w8 ⟨rfl, hb⟩; have H8 := Lib.hid (H7.out.step hb); have B8 := Lib.hid (B7.out.later hb); have X8 := Lib.hid (X7.out.below hb X7.out.lt); have C8 := Lib.hid (And.intro (C7.out.1.later hb) C7.out.2); have Q8 := Lib.hid (And.intro (Q7.out.1.later hb) Q7.out.2); clear x0 x1 x2 x3 x4 x5 x6 x7 x8 x9 x10 x11; obtain ⟨x0, x1, x2, x3, x4, x5, x6, x7, x8, x9, x10, x11, _⟩ := X8.out.tw; obtain ⟨v0, v1, v2, v3, v4⟩ := B8.out.cells; clear hb))
    | (go_at_call 12; refine ((comp_DoA g GL GO gl go c A AL AO cp cL cO w8 B8.out.vl C8.out.1 (by have := HG.out.2.2.1; omega) (small_one C8.out.2) (HTB.out _ H8.out.below)).mono (fun e w' hd => does_apart hd (one_of C8.out.2 ‹¬ m1 = 0›) HG.out Q8.out.2.1 Q8.out.2.2 (by simpa using ‹¬ begins qs c.path = true›) ‹(m1 == 0) = false ∧ begins c.path qs = false›.2)).mono ?_; rintro e w9 ⟨y, YL, YO, yl, yo, rfl, hvy, hyq, hyw, hb⟩; have H9 := Lib.hid (H8.out.step hb); have B9 := Lib.hid (B8.out.later hb); have Q9 := Lib.hid (And.intro (Q8.out.1.later hb) Q8.out.2); have Y9 := Lib.hid (Bx.new hvy); have DY := Lib.hid (And.intro hyq hyw); clear v0 v1 v2 v3 v4 x0 x1 x2 x3 x4 x5 x6 x7 x8 x9 x10 x11; obtain ⟨v0, v1, v2, v3, v4⟩ := B9.out.cellsA; clear hvy hyq hyw hb)
    | (go_at_call 21; have hw9 : g.weight ≤ 1000000000 := (by have := HG.out.2.2.1; omega); ((with_reducible refine (rget1 (B9.out.vl.later (below_alloc _ _)) (Q9.out.1.later (below_alloc _ _)) rfl hw9 Q9.out.2.1).mono ?_); clear hw9; rintro e w10 ⟨ML, MO, ml, mo, rfl, hv, hb⟩; have H10 := Lib.hid ((H9.out.alloc _).step hb); have Y10 := Lib.hid (Y9.out.later hb); have X10 := Lib.hid (Bx.new (W := w10) (g := hq) (AL := ML) (AO := MO) (cL := ml) (cO := mo) ⟨hv.1.keep (From.refl _ _) (fun _ _ _ => trivial), hv.2.keep (From.refl _ _) (fun _ _ _ => trivial)⟩); have Q10 := Lib.hid ((Q9.out.1.later (below_alloc w9 _)).later hb); clear v0 v1 v2 v3 v4; obtain ⟨v0, v1, v2, v3, v4⟩ := Y10.out.cellsA; clear hv hb))
    | (go_at_call 21; have hw9 : y.weight ≤ 1000000000 := (by have := DY.out.2; omega); ((with_reducible refine (rget1 (Y10.out.vl.later (below_alloc _ _)) (Q10.out.later (below_alloc _ _)) rfl hw9 DY.out.1).mono ?_); clear hw9; rintro e w11 ⟨NL, NO, nl, no, rfl, hv, hb⟩; have H11 := Lib.hid ((H10.out.alloc (.cells #[.int .u8 hq.kind, .int .i64 hq.num, .string hq.str, .slice ML hq.items.length ml, .slice MO hq.vals.length mo] 31)).step hb); have X11 := Lib.hid (X10.out.later hb); have Z11 := Lib.hid (Bx.new (W := w11) (g := hq) (AL := NL) (AO := NO) (cL := nl) (cO := no) ⟨hv.1.keep (From.refl _ _) (fun _ _ _ => trivial), hv.2.keep (From.refl _ _) (fun _ _ _ => trivial)⟩); clear v0 v1 v2 v3 v4; obtain ⟨v0, v1, v2, v3, v4⟩ := X11.out.cellsA; clear hv hb))
    | (go_at_call 16; have hw9 : hq.weight ≤ 1000000000 := (by have := get_weight _ _ _ Q9.out.2.1; have := HG.out.2.2.1; omega); ((with_reducible refine (same_is (X11.out.later (below_alloc _ _)).vl Z11.out.vl hw9).mono ?_); clear hw9; rintro e w12 ⟨rfl, hb⟩; have H12 := Lib.hid ((H11.out.alloc _).step hb); clear hb)))
  all_goals first | (go_ret; first | exact ⟨rfl, H3.out.below⟩ | exact ⟨rfl, H6.out.below⟩ | exact ⟨rfl, H7.out.below⟩ | exact ⟨rfl, H8.out.below⟩ | exact ⟨rfl, H12.out.below⟩) | skip
end Go.Proofs.YthnljaheplhbkaaDoor
