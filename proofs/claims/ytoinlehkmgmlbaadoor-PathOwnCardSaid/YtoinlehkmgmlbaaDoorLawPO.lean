/- PathOwn, the Go function: it comes out true. -/
import Derived.Test.YtoinlehkmgmlbaaDoorLawPA
import Derived.Test.YtoinlehkmgmlbaaDoorMess
import Derived.Test.YtoinlehkmgmlbaaDoorPKnown
import Derived.Test.YtoinlehkmgmlbaaDoorHeavyP
namespace Go.Proofs.YtoinlehkmgmlbaaDoor
open Go Go.RowKit

/-- Behind the line that draws its order. -/
def CutO (wr : World) (t7 t8 : Value) (W : World) : Prop :=
  Below wr.heap.size wr W ∧ t8 = .int .u16 0 ∧ ∃ (X lo hi : Nat) (h : GV) (BL BO : Option Addr) (dL dO : Nat), t7 = .pointer (some ⟨X, 0, none⟩) ∧ wr.heap.size ≤ X ∧ wr.heap.size ≤ lo ∧ (X < lo ∨ hi ≤ X) ∧ h.weight ≤ 6000 ∧ Whole W X 29 #[.int .u8 h.kind, .int .i64 h.num, .string h.str, .slice BL h.items.length dL, .slice BO h.vals.length dO] ∧
    LstV (fun k => lo ≤ k ∧ k < hi) W (.slice BL h.items.length dL) h.items ∧ ObjV (fun k => lo ≤ k ∧ k < hi) W (.slice BO h.vals.length dO) h.keys h.vals
/-- Get, with what lies anew. -/
theorem get_new {W : World} {g h : GV} {AL AO : Option Addr} {cL cO : Nat} {A : Option Addr} {c : Nat} {ps : List GStep} (hv : Vl W g AL AO cL cO) (hp : Wy W A c ps) (hw : g.weight ≤ 1000000000) (e : g.get ps = some h) :
    Calls Tryd.prog 14 #[.agg #[.int .u8 g.kind, .int .i64 g.num, .string g.str, .slice AL g.items.length cL, .slice AO g.vals.length cO], .slice A ps.length c] W fun e w' =>
      ∃ BL BO dL dO, e = .returned (.tuple #[.agg #[.int .u8 h.kind, .int .i64 h.num, .string h.str, .slice BL h.items.length dL, .slice BO h.vals.length dO], .int .u16 0]) ∧ (LstV (fun k => W.heap.size ≤ k) w' (.slice BL h.items.length dL) h.items ∧ ObjV (fun k => W.heap.size ≤ k) w' (.slice BO h.vals.length dO) h.keys h.vals) ∧ Below W.heap.size W w' :=
  (path_Get _ _ g W.heap.size A c ps W hv.val hp.steps (Nat.le_refl _) hp.le hp.cap hw).mono fun e' w' ⟨hb, hq⟩ => by
    rcases hq with ⟨h1, _⟩ | ⟨h', v', h1, he, L, O, rfl, hL, hO⟩
    · rw [e] at h1; cases h1
    · rw [e] at h1; cases h1
      obtain ⟨BL, dL, rfl⟩ := lst_form hL
      obtain ⟨BO, dO, rfl⟩ := obj_form hO
      exact ⟨BL, BO, dL, dO, he, ⟨hL, hO⟩, hb⟩
/-- Between the rounds of both loops. -/
def SpoilRel (lo hi B : Nat) (W0 W : World) (n : Nat) (i : Value) (wr : World) : Prop := ∃ k : Nat, i = .int .i64 k ∧ k ≤ n ∧ Mess lo hi W wr ∧ Below B W0 wr
theorem lst_put {W : World} {X lo : Nat} {y : GV} {BL BO : Option Addr} {dL dO : Nat} (a0 a1 a2 a3 a4 : Value) (h : LstV (fun k => lo ≤ k) W (.slice BL y.items.length dL) y.items ∧ ObjV (fun k => lo ≤ k) W (.slice BO y.vals.length dO) y.keys y.vals) (hX : X < lo) :
    LstV (fun k => lo ≤ k ∧ k < (put5 W X a0 a1 a2 a3 a4).heap.size) (put5 W X a0 a1 a2 a3 a4) (.slice BL y.items.length dL) y.items ∧ ObjV (fun k => lo ≤ k ∧ k < (put5 W X a0 a1 a2 a3 a4).heap.size) (put5 W X a0 a1 a2 a3 a4) (.slice BO y.vals.length dO) y.keys y.vals := by
  have hF : From (fun k => lo ≤ k) W (put5 W X a0 a1 a2 a3 a4) := fun k hk _ => put5_block _ _ _ _ _ _ _ _ (by omega)
  have hs : (put5 W X a0 a1 a2 a3 a4).heap.size = W.heap.size := by simp [put5]
  exact ⟨h.1.keep hF (fun k hk hl => ⟨hk, by omega⟩), h.2.keep hF (fun k hk hl => ⟨hk, by omega⟩)⟩
theorem lst_new {W : World} {lo : Nat} {y : GV} {BL BO : Option Addr} {dL dO : Nat} (o : Obj) (h : LstV (fun k => lo ≤ k) W (.slice BL y.items.length dL) y.items ∧ ObjV (fun k => lo ≤ k) W (.slice BO y.vals.length dO) y.keys y.vals) :
    LstV (fun k => lo ≤ k ∧ k < W.heap.size) (W.alloc o) (.slice BL y.items.length dL) y.items ∧ ObjV (fun k => lo ≤ k ∧ k < W.heap.size) (W.alloc o) (.slice BO y.vals.length dO) y.keys y.vals :=
  ⟨h.1.keep (From.of_below (below_alloc W o)) (fun k hk hl => ⟨hk, hl⟩), h.2.keep (From.of_below (below_alloc W o)) (fun k hk hl => ⟨hk, hl⟩)⟩

set_option maxRecDepth 100000 in
set_option maxHeartbeats 8000000 in
theorem pown_true (hi : Nat) (A0 : Option Addr) (c0 : Nat) (ts0 : List GTok) (A1 : Option Addr) (c1 : Nat) (ts1 : List Int) (w : World) (hl0 : ts0.length ≤ c0) (hm0 : c0 ≤ maxLen) (hl1 : ts1.length ≤ c1) (hm1 : c1 ≤ maxLen) (hhi : hi ≤ w.heap.size) (hT0 : Toks hi w A0 ts0) (hT1 : Bytes hi w A1 ts1)
    (hr0 : ∀ t ∈ ts0, 0 ≤ t.k ∧ t.k ≤ 255 ∧ 0 ≤ t.m ∧ t.m ≤ 255) (hs0 : ∀ t ∈ ts0, t.s.size ≤ 140737488351232) (hr1 : ∀ x ∈ ts1, 0 ≤ x ∧ x ≤ 255) (hU : Tabs w) :
    Calls Tryd.prog 9 #[.slice A0 ts0.length c0, .slice A1 ts1.length c1] w (TrueBelow w) := by
  have hh0 := heavyp_any hi A0 c0 ts0 none 0 [] w hT0 (fun h => absurd rfl h) (Nat.le_trans hl0 hm0) (by decide) hs0 (fun t ht => by simp at ht)
  have hbu0 : ts0.length ≤ 200 → ∀ W, Below w.heap.size w W → Calls Tryd.prog 12 #[.slice A0 ts0.length c0] W (BuildIs W) := fun h W hb => build_is hi A0 c0 ts0 W hl0 hm0 h (Nat.le_trans hhi hb.size) (hT0.keep (hb.mono hhi) (Nat.le_refl _)) hr0 hs0
  have hwk1 : ∀ (W : World) (g : GV) (AL AO : Option Addr) (cL cO : Nat), Below w.heap.size w W → Vl W g AL AO cL cO → g.Sound → g.weight ≤ 6000 → Calls Tryd.prog 13 #[.agg #[.int .u8 g.kind, .int .i64 g.num, .string g.str, .slice AL g.items.length cL, .slice AO g.vals.length cO], .slice A1 ts1.length c1] W (WalkIs g W) := fun W g AL AO cL cO hb hv hg hgw => walk_is hv hg (by omega) hi A1 c1 ts1 (hT1.keep (hb.mono hhi) (Nat.le_refl _)) hr1 (Nat.le_trans hhi hb.size) hl1 hm1
  simp only [List.length_nil] at hh0
  have HH0 := Lib.hid hh0
  have HBU0 := Lib.hid hbu0
  have HWK1 := Lib.hid hwk1
  have HK := Lib.hid (fun W (hb : Below w.heap.size w W) => pknown_true W (hU.below hb (Nat.le_refl _)))
  have HU := Lib.hid hU
  clear hU hh0 hbu0 hT0 hr0 hs0 hwk1 hT1 hr1
  unfold HeavyP at HH0
  have hml0 := Nat.le_trans hl0 hm0
  clear hl0 hm0
  unfold maxLen at hml0
  generalize ts0.length = n0 at *
  have hml1 := Nat.le_trans hl1 hm1
  clear hl1 hm1
  unfold maxLen at hml1
  generalize ts1.length = n1 at *
  unfold TrueBelow at HK
  go_enter Tryd.func9, Tryd.ntmps9
  go_wp2_with (first
    | (go_at_call 10; refine HH0.out.mono ?_; rintro e w' ⟨b0, rfl, rfl, hb⟩; have HB0 := Lib.hid hb; clear hb HH0)
    | (go_at_call 11; refine (HK.out _ (Below.refl _ _)).mono ?_; rintro e w1 ⟨rfl, hb⟩; have W1 := Lib.hid hb; clear hb)
    | (go_at_call 12; refine (HBU0.out (HB0.out (by simpa using ‹¬ b0 = true›)).1 _ W1.out).mono ?_; rintro e w2 ⟨g, gAL, gAO, gcL, gcO, rfl, hv, hgs, hgw, hb⟩; have W2 := Lib.hid (W1.out.trans (hb.mono (by have := W1.out.size; first | omega | (simp; omega)))); have Vg := Lib.hid hv; have Sg := Lib.hid (And.intro hgs hgw); clear hb hv hgs hgw HBU0)
    | (go_at_call 22; refine (copy_is (Bx.new Vg.out).vl (by have := Sg.out.2; omega)).mono ?_; rintro e w3 ⟨kAL, kAO, kcL, kcO, rfl, hv, hb⟩; have W3 := Lib.hid ((W2.out.alloc W2.out.size _).trans (hb.mono (by have := W2.out.size; first | omega | (simp; omega)))); have Bg3 := Lib.hid ((Bx.new Vg.out).later hb); have Vk := Lib.hid hv; clear hb hv W2))
  any_goals (go_ret; exact ⟨rfl, W1.out⟩)
  have HB : Hid (Bx (w3.alloc (.cells #[.int .u8 g.kind, .int .i64 g.num, .string g.str, .slice kAL g.items.length kcL, .slice kAO g.vals.length kcO] 29)) w2.heap.size g gAL gAO gcL gcO) := Lib.hid (Bg3.out.later (below_alloc _ _))
  have HK2 : Hid (Bx (w3.alloc (.cells #[.int .u8 g.kind, .int .i64 g.num, .string g.str, .slice kAL g.items.length kcL, .slice kAO g.vals.length kcO] 29)) w3.heap.size g kAL kAO kcL kcO) := Lib.hid (Bx.new Vk.out)
  have WW : Hid (Below w.heap.size w (w3.alloc (.cells #[.int .u8 g.kind, .int .i64 g.num, .string g.str, .slice kAL g.items.length kcL, .slice kAO g.vals.length kcO] 29))) := Lib.hid (W3.out.alloc W3.out.size _)
  obtain ⟨wq, hwr⟩ : ∃ W, W = w3.alloc (.cells #[.int .u8 g.kind, .int .i64 g.num, .string g.str, .slice kAL g.items.length kcL, .slice kAO g.vals.length kcO] 29) := ⟨_, rfl⟩
  rw [← hwr] at HB HK2 WW ⊢
  clear hwr Vk Bg3 W3
  obtain ⟨g0, g1, g2, g3, g4⟩ := HB.out.cells
  obtain ⟨q0, q1, q2, q3, q4⟩ := HB.out.cellsA
  go_cut [7, 8] (CutO wq)
  case first =>
    go_region_with (first
      | (go_at_call 13; refine (HWK1.out wq.drew g gAL gAO gcL gcO WW.out.drew (HB.out.later (Below.refl _ wq).drew).vl Sg.out.1 Sg.out.2).mono ?_; rintro e w8 ⟨P, Pc, Ps, h, rfl, hwy, hget, hlen, hb⟩; have HB8 : Hid (Below wq.heap.size wq w8) := Lib.hid ((Below.refl _ wq).drew.trans hb); have HG8 := Lib.hid (HB.out.later HB8.out); have HP8 := Lib.hid hwy; obtain ⟨h0, h1, h2, h3, h4⟩ := HG8.out.cells; obtain ⟨i0, i1, i2, i3, i4⟩ := HG8.out.cellsA; have HX := Lib.hid (And.intro hget (get_weight _ _ _ hget)); clear hwy hget hlen hb)
      | (go_at_call 13; refine (HWK1.out _ g gAL gAO gcL gcO (WW.out.alloc WW.out.size _).drew (HB.out.later ((Below.refl _ wq).alloc (Nat.le_refl _) _).drew).vl Sg.out.1 Sg.out.2).mono ?_; rintro e w8 ⟨P, Pc, Ps, h, rfl, hwy, hget, hlen, hb⟩; have HZ := Lib.hid (zero_ahead hb); have HB8 : Hid (Below wq.heap.size wq w8) := Lib.hid HZ.out.2; have HG8 := Lib.hid (HB.out.later HB8.out); have HP8 := Lib.hid hwy; obtain ⟨h0, h1, h2, h3, h4⟩ := HG8.out.cells; obtain ⟨i0, i1, i2, i3, i4⟩ := HG8.out.cellsA; have HX := Lib.hid (And.intro hget (get_weight _ _ _ hget)); clear hwy hget hlen hb)
      | (go_at_call 14; refine (get_new HG8.out.vl HP8.out (by have := Sg.out.2; omega) HX.out.1).mono ?_; rintro e w9 ⟨yAL, yAO, ycL, ycO, rfl, hv, hb⟩; have HB9 : Hid (Below wq.heap.size wq w9) := Lib.hid (HB8.out.trans (hb.mono HB8.out.size)); have VY := Lib.hid hv; try (have HZ9 := Lib.hid (HZ.out.1.below hb HZ.out.1.lt); obtain ⟨x0, x1, x2, x3, x4, y0, y1, y2, y3, y4⟩ := HZ9.out.five); have HS9 := Lib.hid hb.size; clear hv hb)
      | (go_at_call 14; refine (get_new (HG8.out.later (below_alloc _ _)).vl (HP8.out.later (below_alloc _ _)) (by have := Sg.out.2; omega) HX.out.1).mono ?_; rintro e w9 ⟨yAL, yAO, ycL, ycO, rfl, hv, hb⟩; have HM := Lib.hid (zero_mid hb); have HB9 : Hid (Below wq.heap.size wq w9) := Lib.hid (HB8.out.trans (HM.out.2.mono HB8.out.size)); have VY := Lib.hid hv; obtain ⟨x0, x1, x2, x3, x4, y0, y1, y2, y3, y4⟩ := HM.out.1.five; have HS9 := Lib.hid hb.size; clear hv hb))
    all_goals go_wp2_with fail
    all_goals go_meet
    all_goals first
      | (have hz := HZ9.out; have hz0 := HZ.out.1.lt; have hl := lst_put (.int .u8 h.kind) (.int .i64 h.num) (.string h.str) (.slice yAL h.items.length ycL) (.slice yAO h.vals.length ycO) VY.out hz0; exact ⟨put5_below HB9.out (Nat.le_refl _) _ _ _ _ _, rfl, _, _, _, h, yAL, yAO, ycL, ycO, rfl, Nat.le_refl _, HB8.out.size, .inl hz0, (by have := HX.out.2; have := Sg.out.2; omega), whole_put5 hz _ _ _ _ _, hl.1, hl.2⟩)
      | (have hz := HM.out.1; have hl := lst_put (X := w8.heap.size) (.int .u8 h.kind) (.int .i64 h.num) (.string h.str) (.slice yAL h.items.length ycL) (.slice yAO h.vals.length ycO) VY.out (by simp); exact ⟨put5_below HB9.out HB8.out.size _ _ _ _ _, rfl, _, _, _, h, yAL, yAO, ycL, ycO, rfl, HB8.out.size, Nat.le_trans HB8.out.size (by simp), .inl (by simp), (by have := HX.out.2; have := Sg.out.2; omega), whole_put5 hz _ _ _ _ _, hl.1, hl.2⟩)
      | (have hl := lst_new (.cells #[.int .u8 h.kind, .int .i64 h.num, .string h.str, .slice yAL h.items.length ycL, .slice yAO h.vals.length ycO] 29) VY.out; exact ⟨HB9.out.alloc HB9.out.size _, rfl, _, _, _, h, yAL, yAO, ycL, ycO, rfl, HB9.out.size, HB8.out.size, .inr (Nat.le_refl _), (by have := HX.out.2; have := Sg.out.2; omega), Whole.new w9 _ _, hl.1, hl.2⟩)
  case rest =>
    obtain ⟨hbw, rfl, X, lo, hl', h, BL, BO, dL, dO, rfl, hXw, hlo, hXo, hhw, hX, hL, hO⟩ := hcut
    obtain ⟨_, _, he1, hl1, hl2, hlf⟩ := hL.form
    cases he1
    obtain ⟨_, _, he2, ho1, ho2, hof⟩ := hO.form
    cases he2
    have hlen := hO.1
    have hn1 : h.items.length ≤ 1000000000 := by have h1 := len_sizes h.items; have h2 := size_eq h; have h3 := size_le_weight h; omega
    have hn2 : h.vals.length ≤ 1000000000 := by have h1 := len_sizes h.vals; have h2 := size_eq h; have h3 := size_le_weight h; omega
    have hlc : ∀ k, k < h.items.length → ∃ b o, BL = some ⟨b, o, none⟩ ∧ lo ≤ b ∧ b < hl' ∧ ∀ W2, Mess lo hl' wc W2 → ∀ j, j < 5 → (∃ u, W2.cell? ⟨b, o + k * 5 + j, none⟩ = some u) ∧ W2.frozen? ⟨b, o + k * 5 + j, none⟩ = false := fun k hk => by
      obtain ⟨b, o, rfl, hK, hE⟩ := hlf (by intro e; rw [e] at hk; simp at hk)
      refine ⟨b, o, rfl, hK.1.1, hK.1.2, fun W2 hM j hj => ?_⟩
      obtain ⟨L, O, h0, h1, h2, h3, h4, _, _⟩ := GV.at_iff.1 (GV.els_get hE (List.getElem?_eq_getElem hk))
      match j, hj with
      | 0, _ => exact hM.cell hK h0
      | 1, _ => exact hM.cell hK h1
      | 2, _ => exact hM.cell hK h2
      | 3, _ => exact hM.cell hK h3
      | 4, _ => exact hM.cell hK h4
    have hoc : ∀ k, k < h.vals.length → ∃ b o, BO = some ⟨b, o, none⟩ ∧ lo ≤ b ∧ b < hl' ∧ ∀ W2, Mess lo hl' wc W2 → (∃ u, W2.cell? ⟨b, o + k * 6, none⟩ = some u) ∧ W2.frozen? ⟨b, o + k * 6, none⟩ = false := fun k hk => by
      obtain ⟨b, o, rfl, hK, hks, hE⟩ := hof (by intro e; rw [e] at hk; simp at hk)
      exact ⟨b, o, rfl, hK.1.1, hK.1.2, fun W2 hM => hM.cell hK (hks.get (List.getElem?_eq_getElem (show k < h.keys.length by omega)))⟩
    have hgl : LstV (fun k => k < wq.heap.size) wc (.slice gAL g.items.length gcL) g.items ∧ ObjV (fun k => k < wq.heap.size) wc (.slice gAO g.vals.length gcO) g.keys g.vals ∧ LstV (fun k => k < wq.heap.size) wc (.slice kAL g.items.length kcL) g.items ∧ ObjV (fun k => k < wq.heap.size) wc (.slice kAO g.vals.length kcO) g.keys g.vals :=
      ⟨HB.out.vl.lst.keep (From.of_below hbw) (fun k _ h => h), HB.out.vl.obj.keep (From.of_below hbw) (fun k _ h => h), HK2.out.vl.lst.keep (From.of_below hbw) (fun k _ h => h), HK2.out.vl.obj.keep (From.of_below hbw) (fun k _ h => h)⟩
    have HGL := Lib.hid hgl
    have HBX := Lib.hid (And.intro (HB.out.whole.below hbw HB.out.whole.lt) (And.intro HB.out.whole.lt (And.intro (HK2.out.whole.below hbw HK2.out.whole.lt) HK2.out.whole.lt)))
    have WW2 := Lib.hid (WW.out.trans (hbw.mono WW.out.size))
    have HLC := Lib.hid hlc
    have HOC := Lib.hid hoc
    have HXW := Lib.hid hX
    have hws := WW.out.size
    unfold maxLen at hl2 ho2
    clear hlc hoc hgl hX hL hO hbw hlf hof hlen g0 g1 g2 g3 g4 q0 q1 q2 q3 q4 HB HK2
    obtain ⟨_, _, _, x3, x4, _⟩ := HXW.out.five
    go_wp2
    clear x3 x4
    go_loopw [9] (SpoilRel lo hl' w.heap.size w wc h.items.length) (fun i _ => h.items.length - (intOf i).toNat)
    case atStart => exact ⟨0, rfl, Nat.zero_le _, Mess.refl _ _ _, WW2.out⟩
    case round =>
      obtain ⟨k, rfl, hk, hM, hB⟩ := hrel
      have x3 := (hM.whole HXW.out hXo).five.c3
      by_cases hlt : k < h.items.length
      · obtain ⟨b, o, rfl, hb1, hb2, hc⟩ := HLC.out k hlt
        obtain ⟨⟨u0, c0⟩, f0⟩ := hc _ hM 0 (by omega)
        obtain ⟨⟨u1, c1⟩, f1⟩ := hc _ hM 1 (by omega)
        obtain ⟨⟨u2, c2⟩, f2⟩ := hc _ hM 2 (by omega)
        obtain ⟨⟨u3, c3⟩, f3⟩ := hc _ hM 3 (by omega)
        obtain ⟨⟨u4, c4⟩, f4⟩ := hc _ hM 4 (by omega)
        simp only [Nat.add_zero] at c0 f0
        have HM := Lib.hid (And.intro hM hB)
        have HBB := Lib.hid (And.intro hb1 hb2)
        clear hc hM hB hb1 hb2
        go_wp2
        go_roundw
        case rel => exact ⟨k + 1, by go_num, by omega, ((((HM.out.1.set HBB.out.1 HBB.out.2 _).set HBB.out.1 HBB.out.2 _).set HBB.out.1 HBB.out.2 _).set HBB.out.1 HBB.out.2 _).set HBB.out.1 HBB.out.2 _,
          ((((HM.out.2.setCell (by have := HBB.out; simp only; omega) _).setCell (by have := HBB.out; simp only; omega) _).setCell (by have := HBB.out; simp only; omega) _).setCell (by have := HBB.out; simp only; omega) _).setCell (by have := HBB.out; simp only; omega) _⟩
        case measure => simp [intOf]; omega
      · have HM := Lib.hid (And.intro hM hB)
        clear hM hB
        go_wp2
        clear x3
        go_loopw [10] (SpoilRel lo hl' w.heap.size w wc h.vals.length) (fun i _ => h.vals.length - (intOf i).toNat)
        case atStart => exact ⟨0, rfl, Nat.zero_le _, HM.out.1, HM.out.2⟩
        case round =>
          clear HM
          obtain ⟨k, rfl, hk, hM, hB⟩ := hrel
          have x4 := (hM.whole HXW.out hXo).five.c4
          by_cases hlt : k < h.vals.length
          · obtain ⟨b, o, rfl, hb1, hb2, hc⟩ := HOC.out k hlt
            obtain ⟨⟨u0, c0⟩, f0⟩ := hc _ hM
            have HM := Lib.hid (And.intro hM hB)
            have HBB := Lib.hid (And.intro hb1 hb2)
            clear hc hM hB hb1 hb2
            go_wp2
            go_roundw
            case rel => exact ⟨k + 1, by go_num, by omega, HM.out.1.set HBB.out.1 HBB.out.2 _, HM.out.2.setCell (by have := HBB.out; simp only; omega) _⟩
            case measure => simp [intOf]; omega
          · have hlg := HBX.out.2.1
            have hlk := HBX.out.2.2.2
            obtain ⟨y0, y1, y2, y3, y4, _⟩ := (hM.whole HBX.out.1 (.inl (by omega))).five
            obtain ⟨z0, z1, z2, z3, z4, _⟩ := (hM.whole HBX.out.2.2.1 (.inl (by omega))).five
            have hf := hM.from (ok := fun k => k < wq.heap.size) (fun k hk => .inl (by omega))
            have HC := Lib.hid (same_is (AL := gAL) (AO := gAO) (cL := gcL) (cO := gcO) (CL := kAL) (CO := kAO) (eL := kcL) (eO := kcO) ⟨HGL.out.1.keep hf (fun _ _ _ => trivial), HGL.out.2.1.keep hf (fun _ _ _ => trivial)⟩ ⟨HGL.out.2.2.1.keep hf (fun _ _ _ => trivial), HGL.out.2.2.2.keep hf (fun _ _ _ => trivial)⟩ (show g.weight ≤ 1000000000 by have := Sg.out.2; omega))
            have HM := Lib.hid hB
            clear hM hB hf
            go_wp2_with (go_at_call 16; refine HC.out.mono ?_; rintro e w9 ⟨rfl, hb⟩; have HB9 := Lib.hid hb; clear hb)
            go_ret
            exact ⟨rfl, HM.out.trans (HB9.out.mono HM.out.size)⟩
end Go.Proofs.YtoinlehkmgmlbaaDoor
