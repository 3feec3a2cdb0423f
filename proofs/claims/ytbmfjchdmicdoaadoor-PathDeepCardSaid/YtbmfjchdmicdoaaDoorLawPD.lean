/- PathDeep, the Go function: it comes out true. -/
import Derived.Test.YtbmfjchdmicdoaaDoorLawPA
import Derived.Deep.RegionHeld3
import Derived.Test.YtbmfjchdmicdoaaDoorDeepM
import Derived.Test.YtbmfjchdmicdoaaDoorPKnown
import Derived.Test.YtbmfjchdmicdoaaDoorHeavyP
namespace Go.Proofs.YtbmfjchdmicdoaaDoor
open Go Go.RowKit

/-- Behind a line that draws its order: the value in its box. -/
def CutG (h : GV) (wr : World) (t t' : Value) (W : World) : Prop :=
  Below wr.heap.size wr W ∧ t' = .int .u16 0 ∧ ∃ (X : Nat) (BL BO : Option Addr) (dL dO : Nat), t = .pointer (some ⟨X, 0, none⟩) ∧ Bx W X h BL BO dL dO
/-- Get, with what lies anew. -/
theorem get_new {W : World} {g h : GV} {AL AO : Option Addr} {cL cO : Nat} {A : Option Addr} {c : Nat} {ps : List GStep} (hv : Vl W g AL AO cL cO) (hp : Wy W A c ps) (hw : g.weight ≤ 1000000000) (e : g.get ps = some h) :
    Calls Tryd.prog 14 #[.agg #[.int .u8 g.kind, .int .i64 g.num, .string g.str, .slice AL g.items.length cL, .slice AO g.vals.length cO], .slice A ps.length c] W fun e w' =>
      ∃ BL BO dL dO, e = .returned (.tuple #[.agg #[.int .u8 h.kind, .int .i64 h.num, .string h.str, .slice BL h.items.length dL, .slice BO h.vals.length dO], .int .u16 0]) ∧ (LstV (fun k => W.heap.size ≤ k) w' (.slice BL h.items.length dL) h.items ∧ ObjV (fun k => W.heap.size ≤ k) w' (.slice BO h.vals.length dO) h.keys h.vals) ∧ Below W.heap.size W w' :=
  (path_Get _ _ g W.heap.size A c ps W hv.val hp.steps (Nat.le_refl _) hp.le hp.cap hw).mono fun e' w' ⟨hb, hq⟩ => by
    rcases hq with ⟨h1, _⟩ | ⟨h', v', h1, he, L, O, rfl, hL, hO⟩
    · rw [e] at h1; cases h1
    · rw [e] at h1; cases h1
      obtain ⟨BL, dL, rfl⟩ := lst_form hL
      obtain ⟨BO, dO, rfl⟩ := obj_form hO
      exact ⟨BL, BO, dL, dO, he, ⟨hL, hO⟩, hb⟩
/-- Get along the front of a path, with what lies anew. -/
theorem get_front {W : World} {g h : GV} {AL AO : Option Addr} {cL cO : Nat} {A : Option Addr} {c n : Nat} {ps : List GStep} (hv : Vl W g AL AO cL cO) (hp : Wy W A c ps) (hn : n ≤ ps.length) (hw : g.weight ≤ 1000000000) (e : g.get (ps.take n) = some h) :
    Calls Tryd.prog 14 #[.agg #[.int .u8 g.kind, .int .i64 g.num, .string g.str, .slice AL g.items.length cL, .slice AO g.vals.length cO], .slice A n c] W fun e w' =>
      ∃ BL BO dL dO, e = .returned (.tuple #[.agg #[.int .u8 h.kind, .int .i64 h.num, .string h.str, .slice BL h.items.length dL, .slice BO h.vals.length dO], .int .u16 0]) ∧ (LstV (fun k => W.heap.size ≤ k) w' (.slice BL h.items.length dL) h.items ∧ ObjV (fun k => W.heap.size ≤ k) w' (.slice BO h.vals.length dO) h.keys h.vals) ∧ Below W.heap.size W w' := by
  have h := get_new hv (hp.take hn) hw e
  rwa [List.length_take, Nat.min_eq_left hn] at h
/-- Put along the rest of a path, with what lies anew. -/
theorem put_rest {W : World} {g x y : GV} {AL AO CL CO : Option Addr} {cL cO eL eO : Nat} {A : Option Addr} {c n : Nat} {ps : List GStep} (hv : Vl W g AL AO cL cO) (hx : Vl W x CL CO eL eO) (hp : Wy W A c (ps.drop n)) (hw : g.weight ≤ 400000000) (hwx : x.weight ≤ 400000000) (e : g.put x (ps.drop n) = some y) :
    Calls Tryd.prog 15 #[.agg #[.int .u8 g.kind, .int .i64 g.num, .string g.str, .slice AL g.items.length cL, .slice AO g.vals.length cO], .slice A (ps.length - n) c, .agg #[.int .u8 x.kind, .int .i64 x.num, .string x.str, .slice CL x.items.length eL, .slice CO x.vals.length eO]] W fun e w' =>
      ∃ BL BO dL dO, e = .returned (.tuple #[.agg #[.int .u8 y.kind, .int .i64 y.num, .string y.str, .slice BL y.items.length dL, .slice BO y.vals.length dO], .int .u16 0]) ∧ (LstV (fun k => W.heap.size ≤ k) w' (.slice BL y.items.length dL) y.items ∧ ObjV (fun k => W.heap.size ≤ k) w' (.slice BO y.vals.length dO) y.keys y.vals) ∧ Below W.heap.size W w' := by
  have h := put_new hv hx hp hw hwx e
  rwa [List.length_drop] at h

/-- Get along the rest of a path. -/
theorem get_rest {W : World} {g h : GV} {AL AO : Option Addr} {cL cO : Nat} {A : Option Addr} {c n : Nat} {ps : List GStep} (hv : Vl W g AL AO cL cO) (hp : Wy W A c (ps.drop n)) (hw : g.weight ≤ 1000000000) (e : g.get (ps.drop n) = some h) :
    Calls Tryd.prog 14 #[.agg #[.int .u8 g.kind, .int .i64 g.num, .string g.str, .slice AL g.items.length cL, .slice AO g.vals.length cO], .slice A (ps.length - n) c] W fun e w' =>
      ∃ BL BO dL dO, e = .returned (.tuple #[.agg #[.int .u8 h.kind, .int .i64 h.num, .string h.str, .slice BL h.items.length dL, .slice BO h.vals.length dO], .int .u16 0]) ∧ (LstV (fun k => W.heap.size ≤ k) w' (.slice BL h.items.length dL) h.items ∧ ObjV (fun k => W.heap.size ≤ k) w' (.slice BO h.vals.length dO) h.keys h.vals) ∧ Below W.heap.size W w' := by
  have h := get_new hv hp hw e
  rwa [List.length_drop] at h
/-- Put along the front of a path. -/
theorem put_front {W : World} {g x y : GV} {AL AO CL CO : Option Addr} {cL cO eL eO : Nat} {A : Option Addr} {c n : Nat} {ps : List GStep} (hv : Vl W g AL AO cL cO) (hx : Vl W x CL CO eL eO) (hp : Wy W A c ps) (hn : n ≤ ps.length) (hw : g.weight ≤ 400000000) (hwx : x.weight ≤ 400000000) (e : g.put x (ps.take n) = some y) :
    Calls Tryd.prog 15 #[.agg #[.int .u8 g.kind, .int .i64 g.num, .string g.str, .slice AL g.items.length cL, .slice AO g.vals.length cO], .slice A n c, .agg #[.int .u8 x.kind, .int .i64 x.num, .string x.str, .slice CL x.items.length eL, .slice CO x.vals.length eO]] W fun e w' =>
      ∃ BL BO dL dO, e = .returned (.tuple #[.agg #[.int .u8 y.kind, .int .i64 y.num, .string y.str, .slice BL y.items.length dL, .slice BO y.vals.length dO], .int .u16 0]) ∧ (LstV (fun k => W.heap.size ≤ k) w' (.slice BL y.items.length dL) y.items ∧ ObjV (fun k => W.heap.size ≤ k) w' (.slice BO y.vals.length dO) y.keys y.vals) ∧ Below W.heap.size W w' := by
  have h := put_new hv hx (hp.take hn) hw hwx e
  rwa [List.length_take, Nat.min_eq_left hn] at h
theorem run_front (P : Option Addr) (np pc n : Nat) (hn : n ≤ np) (hp : np ≤ pc) (W : World) : (Instr.slice 31 (.slice P np pc) none (some (.int .i64 n)) none).run Tryd.prog W = .ok (.slice P n pc) W := by
  rw [run_slice_h (ht := Tryd.underlying31) (h0 := by omega) (h2 := by omega)]
  cases P <;> simp [go_sem, Addr.add]
theorem run_rest (P : Option Addr) (pc n : Nat) (ps : List GStep) (hn : n ≤ ps.length) (hp : ps.length ≤ pc) : ∃ D : Option Addr, (∀ W, Wy W P pc ps → Wy W D (pc - n) (ps.drop n)) ∧ ∀ W, (Instr.slice 31 (.slice P ps.length pc) (some (.int .i64 n)) none none).run Tryd.prog W = .ok (.slice D (ps.length - n) (pc - n)) W := by
  cases P with
  | none =>
    refine ⟨none, fun W h => h.drop_nil n (pc - n) (by have := h.cap; omega), fun W => ?_⟩
    rw [run_slice_l (ht := Tryd.underlying31) (h0 := by omega) (h1 := by omega)]
    simp [go_sem]
  | some a =>
    refine ⟨if pc = n then some a else some (a.add (n * 3)), fun W h => h.drop hn, fun W => ?_⟩
    rw [run_slice_l (ht := Tryd.underlying31) (h0 := by omega) (h1 := by omega)]
    simp [go_sem]

set_option maxRecDepth 100000 in
set_option maxHeartbeats 8000000 in
theorem pdeep_true (hi : Nat) (A0 : Option Addr) (c0 : Nat) (ts0 : List GTok) (A1 : Option Addr) (c1 : Nat) (ts1 : List Int) (k2 : Int) (A3 : Option Addr) (c3 : Nat) (ts3 : List GTok) (w : World) (hl0 : ts0.length ≤ c0) (hm0 : c0 ≤ maxLen) (hl1 : ts1.length ≤ c1) (hm1 : c1 ≤ maxLen) (hl3 : ts3.length ≤ c3) (hm3 : c3 ≤ maxLen) (hhi : hi ≤ w.heap.size) (hT0 : Toks hi w A0 ts0) (hT1 : Bytes hi w A1 ts1) (hT3 : Toks hi w A3 ts3)
    (hr0 : ∀ t ∈ ts0, 0 ≤ t.k ∧ t.k ≤ 255 ∧ 0 ≤ t.m ∧ t.m ≤ 255) (hs0 : ∀ t ∈ ts0, t.s.size ≤ 140737488351232) (hr1 : ∀ x ∈ ts1, 0 ≤ x ∧ x ≤ 255) (hr3 : ∀ t ∈ ts3, 0 ≤ t.k ∧ t.k ≤ 255 ∧ 0 ≤ t.m ∧ t.m ≤ 255) (hs3 : ∀ t ∈ ts3, t.s.size ≤ 140737488351232) (hU : Tabs w) :
    Calls Tryd.prog 3 #[.slice A0 ts0.length c0, .slice A1 ts1.length c1, .int .i64 k2, .slice A3 ts3.length c3] w (TrueBelow w) := by
  have hh0 := heavyp_any hi A0 c0 ts0 none 0 [] w hT0 (fun h => absurd rfl h) (Nat.le_trans hl0 hm0) (by decide) hs0 (fun t ht => by simp at ht)
  have hbu0 : ts0.length ≤ 200 → ∀ W, Below w.heap.size w W → Calls Tryd.prog 12 #[.slice A0 ts0.length c0] W (BuildIs W) := fun h W hb => build_is hi A0 c0 ts0 W hl0 hm0 h (Nat.le_trans hhi hb.size) (hT0.keep (hb.mono hhi) (Nat.le_refl _)) hr0 hs0
  have hwk1 : ∀ (W : World) (g : GV) (AL AO : Option Addr) (cL cO : Nat), Below w.heap.size w W → Vl W g AL AO cL cO → g.Sound → g.weight ≤ 6000 → Calls Tryd.prog 13 #[.agg #[.int .u8 g.kind, .int .i64 g.num, .string g.str, .slice AL g.items.length cL, .slice AO g.vals.length cO], .slice A1 ts1.length c1] W (WalkIs g W) := fun W g AL AO cL cO hb hv hg hgw => walk_is hv hg (by omega) hi A1 c1 ts1 (hT1.keep (hb.mono hhi) (Nat.le_refl _)) hr1 (Nat.le_trans hhi hb.size) hl1 hm1
  have hh3 := heavyp_any hi A3 c3 ts3 none 0 [] w hT3 (fun h => absurd rfl h) (Nat.le_trans hl3 hm3) (by decide) hs3 (fun t ht => by simp at ht)
  have hbu3 : ts3.length ≤ 200 → ∀ W, Below w.heap.size w W → Calls Tryd.prog 12 #[.slice A3 ts3.length c3] W (BuildIs W) := fun h W hb => build_is hi A3 c3 ts3 W hl3 hm3 h (Nat.le_trans hhi hb.size) (hT3.keep (hb.mono hhi) (Nat.le_refl _)) hr3 hs3
  simp only [List.length_nil] at hh0 hh3
  have HH0 := Lib.hid hh0
  have HBU0 := Lib.hid hbu0
  have HWK1 := Lib.hid hwk1
  have HH3 := Lib.hid hh3
  have HBU3 := Lib.hid hbu3
  have HK := Lib.hid (fun W (hb : Below w.heap.size w W) => pknown_true W (hU.below hb (Nat.le_refl _)))
  have HU := Lib.hid hU
  clear hU hh0 hbu0 hT0 hr0 hs0 hwk1 hT1 hr1 hh3 hbu3 hT3 hr3 hs3
  unfold HeavyP at HH0
  have hml0 := Nat.le_trans hl0 hm0
  clear hl0 hm0
  unfold maxLen at hml0
  generalize ts0.length = n0 at *
  have hml1 := Nat.le_trans hl1 hm1
  clear hl1 hm1
  unfold maxLen at hml1
  generalize ts1.length = n1 at *
  unfold HeavyP at HH3
  have hml3 := Nat.le_trans hl3 hm3
  clear hl3 hm3
  unfold maxLen at hml3
  generalize ts3.length = n3 at *
  unfold TrueBelow at HK
  go_enter Tryd.func3, Tryd.ntmps3
  go_wp2_with (first
    | (go_at_call 10; refine HH0.out.mono ?_; rintro e w' ⟨b0, rfl, rfl, hb⟩; have HB0 := Lib.hid hb; clear hb HH0)
    | (go_at_call 10; refine HH3.out.mono ?_; rintro e w' ⟨b3, rfl, rfl, hb⟩; have HB3 := Lib.hid hb; clear hb HH3)
    | (go_at_call 11; refine (HK.out _ (Below.refl _ _)).mono ?_; rintro e w1 ⟨rfl, hb⟩; have W1 := Lib.hid hb; clear hb)
    | (go_at_call 12; refine (HBU0.out (HB0.out (by simpa using ‹¬ b0 = true›)).1 _ W1.out).mono ?_; rintro e w2 ⟨g, gAL, gAO, gcL, gcO, rfl, hv, hgs, hgw, hb⟩; have W2 := Lib.hid (W1.out.trans (hb.mono (by have := W1.out.size; first | omega | (simp; omega)))); have Vg := Lib.hid hv; have Sg := Lib.hid (And.intro hgs hgw); clear hb hv hgs hgw HBU0)
    | (go_at_call 12; refine (HBU3.out (HB3.out (by simpa using ‹¬ b3 = true›)).1 _ (W2.out.alloc W2.out.size _)).mono ?_; rintro e w3 ⟨x, xAL, xAO, xcL, xcO, rfl, hv, hgs, hgw, hb⟩; have W3 := Lib.hid ((W2.out.alloc W2.out.size _).trans (hb.mono (by have := W2.out.size; first | omega | (simp; omega)))); have Bg3 := Lib.hid ((Bx.new Vg.out).later hb); have Vx := Lib.hid hv; have Sx := Lib.hid (And.intro hgs hgw); clear hb hv W2 hgs hgw HBU3; obtain ⟨fg0, fg1, fg2, fg3, fg4⟩ := Bg3.out.cellsA)
    | (go_at_call 13; refine (HWK1.out _ _ _ _ _ _ (W3.out.alloc W3.out.size _) (Bg3.out.later (below_alloc _ _)).vl Sg.out.1 Sg.out.2).mono ?_; rintro e w4 ⟨P, pc, ps, h, rfl, hwy, hget, hlen, hb⟩; clear fg0 fg1 fg2 fg3 fg4; have W4 := Lib.hid ((W3.out.alloc W3.out.size _).trans (hb.mono (by have := W3.out.size; first | omega | (simp; omega)))); have Bg4 := Lib.hid ((Bg3.out.later (below_alloc _ _)).later hb); have Bx4 := Lib.hid ((Bx.new Vx.out).later hb); have Pp4 := Lib.hid hwy; obtain ⟨mid, inn, y, hm1, hm2, hm3, hm4, hm5⟩ := deep_split (x := x) ps (max k2 0 % ((ps.length : Int) + 1)).toNat hget; have HGET := Lib.hid hget; have HM := Lib.hid (And.intro hm1 (And.intro hm2 (And.intro hm3 (And.intro hm4 hm5)))); have HW := Lib.hid (And.intro (get_weight _ _ _ hm1) (And.intro (get_weight _ _ _ hm2) (And.intro (put_weight _ _ _ hm3) (And.intro (put_weight _ _ _ hm4) (put_weight _ _ _ hm5))))); have hple := Pp4.out.le; have hpc := Pp4.out.cap; unfold maxLen at hpc; obtain ⟨n, hn, hmod⟩ := mod_nat k2 ps.length; rw [hmod, Int.toNat_natCast] at HM; have hp8 := hlen.1; clear hb hwy Bg3 W3 hm1 hm2 hm3 hm4 hm5 hget hlen HWK1; obtain ⟨fg0, fg1, fg2, fg3, fg4⟩ := Bg4.out.cells))
  any_goals (go_ret; exact ⟨rfl, W1.out⟩)
  rw [hmod]
  clear hmod fg0 fg1 fg2 fg3 fg4
  have hsl0 := fun W => run_front P ps.length pc n hn hple W
  obtain ⟨D, hD, hsl1⟩ := run_rest P pc n ps hn hple
  have HD := Lib.hid hD
  clear hD
  go_cut [13, 14] (CutG mid w4)
  case first =>
    obtain ⟨f00, f01, f02, f03, f04⟩ := Bg4.out.cells
    have HSS := Lib.hid (fun (W : World) (hb : Below w4.heap.size w4 W) => (show W.cell? ⟨w2.heap.size, 0, none⟩ = some (.int .u8 g.kind) ∧ W.cell? ⟨w2.heap.size, 1, none⟩ = some (.int .i64 g.num) ∧ W.cell? ⟨w2.heap.size, 2, none⟩ = some (.string g.str) ∧ W.cell? ⟨w2.heap.size, 3, none⟩ = some (.slice gAL g.items.length gcL) ∧ W.cell? ⟨w2.heap.size, 4, none⟩ = some (.slice gAO g.vals.length gcO) from ⟨(Bg4.out.later hb).cells.1, (Bg4.out.later hb).cells.2.1, (Bg4.out.later hb).cells.2.2.1, (Bg4.out.later hb).cells.2.2.2.1, (Bg4.out.later hb).cells.2.2.2.2⟩))
    go_region_held3 (fun W => W.cell? ⟨w2.heap.size, 0, none⟩ = some (.int .u8 g.kind) ∧ W.cell? ⟨w2.heap.size, 1, none⟩ = some (.int .i64 g.num) ∧ W.cell? ⟨w2.heap.size, 2, none⟩ = some (.string g.str) ∧ W.cell? ⟨w2.heap.size, 3, none⟩ = some (.slice gAL g.items.length gcL) ∧ W.cell? ⟨w2.heap.size, 4, none⟩ = some (.slice gAO g.vals.length gcO))
      (first | exact HSS.out _ (put5_below HB9.out (Nat.le_refl _) _ _ _ _ _) | exact HSS.out _ (HB9.out.alloc HB9.out.size _) | exact HSS.out _ HB9.out | exact HSS.out _ ((Below.refl _ w4).alloc (Nat.le_refl _) _).drew | exact HSS.out _ (Below.refl _ w4).drew)
      (first
        | (go_at_call 14; refine (get_front (Bg4.out.later (Below.refl _ w4).drew).vl (Pp4.out.later (Below.refl _ w4).drew) hn (by have := Sg.out.2; have := Sx.out.2; have := HW.out; omega) HM.out.1).mono ?_; rintro e ww ⟨yAL, yAO, ycL, ycO, rfl, hv, hb⟩; have HB9 : Hid (Below w4.heap.size w4 ww) := Lib.hid ((Below.refl _ w4).drew.trans hb); have VY := Lib.hid hv; clear hv hb)
        | (go_at_call 14; refine (get_front (Bg4.out.later ((Below.refl _ w4).alloc (Nat.le_refl _) _).drew).vl (Pp4.out.later ((Below.refl _ w4).alloc (Nat.le_refl _) _).drew) hn (by have := Sg.out.2; have := Sx.out.2; have := HW.out; omega) HM.out.1).mono ?_; rintro e ww ⟨yAL, yAO, ycL, ycO, rfl, hv, hb⟩; have HZ := Lib.hid (zero_ahead hb); have HB9 : Hid (Below w4.heap.size w4 ww) := Lib.hid HZ.out.2; have VY := Lib.hid hv; have HZ9 := Lib.hid HZ.out.1; obtain ⟨x0, x1, x2, x3, x4, y0, y1, y2, y3, y4⟩ := HZ.out.1.five; clear hv hb))
    all_goals go_wp2_with fail
    all_goals go_meet
    all_goals first
      | (have hz := HZ9.out; exact ⟨put5_below HB9.out (Nat.le_refl _) _ _ _ _ _, rfl, _, yAL, yAO, ycL, ycO, rfl, vl_put5 VY.out.1 VY.out.2 (by simp) hz⟩)
      | exact ⟨HB9.out.alloc HB9.out.size _, rfl, _, yAL, yAO, ycL, ycO, rfl, Bx.new ⟨VY.out.1.keep (From.refl _ _) (fun _ _ _ => trivial), VY.out.2.keep (From.refl _ _) (fun _ _ _ => trivial)⟩⟩
  case rest =>
    obtain ⟨hbw, rfl, Xm, mAL, mAO, mcL, mcO, rfl, hbx⟩ := hcut
    have Bg5 := Lib.hid (Bg4.out.later hbw)
    have Bx5 := Lib.hid (Bx4.out.later hbw)
    have Pp5 := Lib.hid (Pp4.out.later hbw)
    have W5 := Lib.hid (W4.out.trans (hbw.mono W4.out.size))
    have Bm5 := Lib.hid hbx
    clear hbw hbx Bg4 Bx4 Pp4 W4
    obtain ⟨w5, hv5⟩ : ∃ W, W = wc := ⟨_, rfl⟩
    rw [← hv5] at Bg5 Bx5 Bm5 Pp5 W5 ⊢
    clear hv5
    go_wp2_with fail
    go_cut [15, 16] (CutG inn w5)
    case first =>
      obtain ⟨f00, f01, f02, f03, f04⟩ := Bm5.out.cells
      obtain ⟨f10, f11, f12, f13, f14⟩ := Bx5.out.cells
      have HSS := Lib.hid (fun (W : World) (hb : Below w5.heap.size w5 W) => (show W.cell? ⟨Xm, 0, none⟩ = some (.int .u8 mid.kind) ∧ W.cell? ⟨Xm, 1, none⟩ = some (.int .i64 mid.num) ∧ W.cell? ⟨Xm, 2, none⟩ = some (.string mid.str) ∧ W.cell? ⟨Xm, 3, none⟩ = some (.slice mAL mid.items.length mcL) ∧ W.cell? ⟨Xm, 4, none⟩ = some (.slice mAO mid.vals.length mcO) ∧ W.cell? ⟨w3.heap.size, 0, none⟩ = some (.int .u8 x.kind) ∧ W.cell? ⟨w3.heap.size, 1, none⟩ = some (.int .i64 x.num) ∧ W.cell? ⟨w3.heap.size, 2, none⟩ = some (.string x.str) ∧ W.cell? ⟨w3.heap.size, 3, none⟩ = some (.slice xAL x.items.length xcL) ∧ W.cell? ⟨w3.heap.size, 4, none⟩ = some (.slice xAO x.vals.length xcO) from ⟨(Bm5.out.later hb).cells.1, (Bm5.out.later hb).cells.2.1, (Bm5.out.later hb).cells.2.2.1, (Bm5.out.later hb).cells.2.2.2.1, (Bm5.out.later hb).cells.2.2.2.2, (Bx5.out.later hb).cells.1, (Bx5.out.later hb).cells.2.1, (Bx5.out.later hb).cells.2.2.1, (Bx5.out.later hb).cells.2.2.2.1, (Bx5.out.later hb).cells.2.2.2.2⟩))
      go_region_held3 (fun W => W.cell? ⟨Xm, 0, none⟩ = some (.int .u8 mid.kind) ∧ W.cell? ⟨Xm, 1, none⟩ = some (.int .i64 mid.num) ∧ W.cell? ⟨Xm, 2, none⟩ = some (.string mid.str) ∧ W.cell? ⟨Xm, 3, none⟩ = some (.slice mAL mid.items.length mcL) ∧ W.cell? ⟨Xm, 4, none⟩ = some (.slice mAO mid.vals.length mcO) ∧ W.cell? ⟨w3.heap.size, 0, none⟩ = some (.int .u8 x.kind) ∧ W.cell? ⟨w3.heap.size, 1, none⟩ = some (.int .i64 x.num) ∧ W.cell? ⟨w3.heap.size, 2, none⟩ = some (.string x.str) ∧ W.cell? ⟨w3.heap.size, 3, none⟩ = some (.slice xAL x.items.length xcL) ∧ W.cell? ⟨w3.heap.size, 4, none⟩ = some (.slice xAO x.vals.length xcO))
        (first | exact HSS.out _ (put5_below HB9.out (Nat.le_refl _) _ _ _ _ _) | exact HSS.out _ (HB9.out.alloc HB9.out.size _) | exact HSS.out _ HB9.out | exact HSS.out _ ((Below.refl _ w5).alloc (Nat.le_refl _) _).drew | exact HSS.out _ (Below.refl _ w5).drew)
        (first
          | (go_at_call 15; refine (put_rest (Bm5.out.later (Below.refl _ w5).drew).vl (Bx5.out.later (Below.refl _ w5).drew).vl (HD.out _ (Pp5.out.later (Below.refl _ w5).drew)) (by have := Sg.out.2; have := Sx.out.2; have := HW.out; omega) (by have := Sg.out.2; have := Sx.out.2; have := HW.out; omega) HM.out.2.2.1).mono ?_; rintro e ww ⟨yAL, yAO, ycL, ycO, rfl, hv, hb⟩; have HB9 : Hid (Below w5.heap.size w5 ww) := Lib.hid ((Below.refl _ w5).drew.trans hb); have VY := Lib.hid hv; clear hv hb)
          | (go_at_call 15; refine (put_rest (Bm5.out.later ((Below.refl _ w5).alloc (Nat.le_refl _) _).drew).vl (Bx5.out.later ((Below.refl _ w5).alloc (Nat.le_refl _) _).drew).vl (HD.out _ (Pp5.out.later ((Below.refl _ w5).alloc (Nat.le_refl _) _).drew)) (by have := Sg.out.2; have := Sx.out.2; have := HW.out; omega) (by have := Sg.out.2; have := Sx.out.2; have := HW.out; omega) HM.out.2.2.1).mono ?_; rintro e ww ⟨yAL, yAO, ycL, ycO, rfl, hv, hb⟩; have HZ := Lib.hid (zero_ahead hb); have HB9 : Hid (Below w5.heap.size w5 ww) := Lib.hid HZ.out.2; have VY := Lib.hid hv; have HZ9 := Lib.hid HZ.out.1; obtain ⟨x0, x1, x2, x3, x4, y0, y1, y2, y3, y4⟩ := HZ.out.1.five; clear hv hb))
      all_goals go_wp2_with fail
      all_goals go_meet
      all_goals first
        | (have hz := HZ9.out; exact ⟨put5_below HB9.out (Nat.le_refl _) _ _ _ _ _, rfl, _, yAL, yAO, ycL, ycO, rfl, vl_put5 VY.out.1 VY.out.2 (by simp) hz⟩)
        | exact ⟨HB9.out.alloc HB9.out.size _, rfl, _, yAL, yAO, ycL, ycO, rfl, Bx.new ⟨VY.out.1.keep (From.refl _ _) (fun _ _ _ => trivial), VY.out.2.keep (From.refl _ _) (fun _ _ _ => trivial)⟩⟩
    case rest =>
      obtain ⟨hbw, rfl, Xi, iAL, iAO, icL, icO, rfl, hbx⟩ := hcut
      have Bg6 := Lib.hid (Bg5.out.later hbw)
      have Bx6 := Lib.hid (Bx5.out.later hbw)
      have Bm6 := Lib.hid (Bm5.out.later hbw)
      have Pp6 := Lib.hid (Pp5.out.later hbw)
      have W6 := Lib.hid (W5.out.trans (hbw.mono W5.out.size))
      have Bi6 := Lib.hid hbx
      clear hbw hbx Bg5 Bx5 Bm5 Pp5 W5
      obtain ⟨w6, hv6⟩ : ∃ W, W = wc := ⟨_, rfl⟩
      rw [← hv6] at Bg6 Bx6 Bm6 Bi6 Pp6 W6 ⊢
      clear hv6
      go_wp2_with fail
      go_cut [17, 18] (CutG y w6)
      case first =>
        obtain ⟨f00, f01, f02, f03, f04⟩ := Bg6.out.cells
        obtain ⟨f10, f11, f12, f13, f14⟩ := Bi6.out.cells
        have HSS := Lib.hid (fun (W : World) (hb : Below w6.heap.size w6 W) => (show W.cell? ⟨w2.heap.size, 0, none⟩ = some (.int .u8 g.kind) ∧ W.cell? ⟨w2.heap.size, 1, none⟩ = some (.int .i64 g.num) ∧ W.cell? ⟨w2.heap.size, 2, none⟩ = some (.string g.str) ∧ W.cell? ⟨w2.heap.size, 3, none⟩ = some (.slice gAL g.items.length gcL) ∧ W.cell? ⟨w2.heap.size, 4, none⟩ = some (.slice gAO g.vals.length gcO) ∧ W.cell? ⟨Xi, 0, none⟩ = some (.int .u8 inn.kind) ∧ W.cell? ⟨Xi, 1, none⟩ = some (.int .i64 inn.num) ∧ W.cell? ⟨Xi, 2, none⟩ = some (.string inn.str) ∧ W.cell? ⟨Xi, 3, none⟩ = some (.slice iAL inn.items.length icL) ∧ W.cell? ⟨Xi, 4, none⟩ = some (.slice iAO inn.vals.length icO) from ⟨(Bg6.out.later hb).cells.1, (Bg6.out.later hb).cells.2.1, (Bg6.out.later hb).cells.2.2.1, (Bg6.out.later hb).cells.2.2.2.1, (Bg6.out.later hb).cells.2.2.2.2, (Bi6.out.later hb).cells.1, (Bi6.out.later hb).cells.2.1, (Bi6.out.later hb).cells.2.2.1, (Bi6.out.later hb).cells.2.2.2.1, (Bi6.out.later hb).cells.2.2.2.2⟩))
        go_region_held3 (fun W => W.cell? ⟨w2.heap.size, 0, none⟩ = some (.int .u8 g.kind) ∧ W.cell? ⟨w2.heap.size, 1, none⟩ = some (.int .i64 g.num) ∧ W.cell? ⟨w2.heap.size, 2, none⟩ = some (.string g.str) ∧ W.cell? ⟨w2.heap.size, 3, none⟩ = some (.slice gAL g.items.length gcL) ∧ W.cell? ⟨w2.heap.size, 4, none⟩ = some (.slice gAO g.vals.length gcO) ∧ W.cell? ⟨Xi, 0, none⟩ = some (.int .u8 inn.kind) ∧ W.cell? ⟨Xi, 1, none⟩ = some (.int .i64 inn.num) ∧ W.cell? ⟨Xi, 2, none⟩ = some (.string inn.str) ∧ W.cell? ⟨Xi, 3, none⟩ = some (.slice iAL inn.items.length icL) ∧ W.cell? ⟨Xi, 4, none⟩ = some (.slice iAO inn.vals.length icO))
          (first | exact HSS.out _ (put5_below HB9.out (Nat.le_refl _) _ _ _ _ _) | exact HSS.out _ (HB9.out.alloc HB9.out.size _) | exact HSS.out _ HB9.out | exact HSS.out _ ((Below.refl _ w6).alloc (Nat.le_refl _) _).drew | exact HSS.out _ (Below.refl _ w6).drew)
          (first
            | (go_at_call 15; refine (put_front (Bg6.out.later (Below.refl _ w6).drew).vl (Bi6.out.later (Below.refl _ w6).drew).vl (Pp6.out.later (Below.refl _ w6).drew) hn (by have := Sg.out.2; have := Sx.out.2; have := HW.out; omega) (by have := Sg.out.2; have := Sx.out.2; have := HW.out; omega) HM.out.2.2.2.1).mono ?_; rintro e ww ⟨yAL, yAO, ycL, ycO, rfl, hv, hb⟩; have HB9 : Hid (Below w6.heap.size w6 ww) := Lib.hid ((Below.refl _ w6).drew.trans hb); have VY := Lib.hid hv; clear hv hb)
            | (go_at_call 15; refine (put_front (Bg6.out.later ((Below.refl _ w6).alloc (Nat.le_refl _) _).drew).vl (Bi6.out.later ((Below.refl _ w6).alloc (Nat.le_refl _) _).drew).vl (Pp6.out.later ((Below.refl _ w6).alloc (Nat.le_refl _) _).drew) hn (by have := Sg.out.2; have := Sx.out.2; have := HW.out; omega) (by have := Sg.out.2; have := Sx.out.2; have := HW.out; omega) HM.out.2.2.2.1).mono ?_; rintro e ww ⟨yAL, yAO, ycL, ycO, rfl, hv, hb⟩; have HZ := Lib.hid (zero_ahead hb); have HB9 : Hid (Below w6.heap.size w6 ww) := Lib.hid HZ.out.2; have VY := Lib.hid hv; have HZ9 := Lib.hid HZ.out.1; obtain ⟨x0, x1, x2, x3, x4, y0, y1, y2, y3, y4⟩ := HZ.out.1.five; clear hv hb))
        all_goals go_wp2_with fail
        all_goals go_meet
        all_goals first
          | (have hz := HZ9.out; exact ⟨put5_below HB9.out (Nat.le_refl _) _ _ _ _ _, rfl, _, yAL, yAO, ycL, ycO, rfl, vl_put5 VY.out.1 VY.out.2 (by simp) hz⟩)
          | exact ⟨HB9.out.alloc HB9.out.size _, rfl, _, yAL, yAO, ycL, ycO, rfl, Bx.new ⟨VY.out.1.keep (From.refl _ _) (fun _ _ _ => trivial), VY.out.2.keep (From.refl _ _) (fun _ _ _ => trivial)⟩⟩
      case rest =>
        obtain ⟨hbw, rfl, Xa, aAL, aAO, acL, acO, rfl, hbx⟩ := hcut
        have Bg7 := Lib.hid (Bg6.out.later hbw)
        have Bx7 := Lib.hid (Bx6.out.later hbw)
        have Bm7 := Lib.hid (Bm6.out.later hbw)
        have Bi7 := Lib.hid (Bi6.out.later hbw)
        have Pp7 := Lib.hid (Pp6.out.later hbw)
        have W7 := Lib.hid (W6.out.trans (hbw.mono W6.out.size))
        have Ba7 := Lib.hid hbx
        clear hbw hbx Bg6 Bx6 Bm6 Bi6 Pp6 W6
        obtain ⟨w7, hv7⟩ : ∃ W, W = wc := ⟨_, rfl⟩
        rw [← hv7] at Bg7 Bx7 Bm7 Bi7 Ba7 Pp7 W7 ⊢
        clear hv7
        go_upto_region 10 with (fail)
        go_cut [19, 20] (CutG y w7)
        case first =>
          obtain ⟨f00, f01, f02, f03, f04⟩ := Bg7.out.cells
          obtain ⟨f10, f11, f12, f13, f14⟩ := Bx7.out.cells
          have HSS := Lib.hid (fun (W : World) (hb : Below w7.heap.size w7 W) => (show W.cell? ⟨w2.heap.size, 0, none⟩ = some (.int .u8 g.kind) ∧ W.cell? ⟨w2.heap.size, 1, none⟩ = some (.int .i64 g.num) ∧ W.cell? ⟨w2.heap.size, 2, none⟩ = some (.string g.str) ∧ W.cell? ⟨w2.heap.size, 3, none⟩ = some (.slice gAL g.items.length gcL) ∧ W.cell? ⟨w2.heap.size, 4, none⟩ = some (.slice gAO g.vals.length gcO) ∧ W.cell? ⟨w3.heap.size, 0, none⟩ = some (.int .u8 x.kind) ∧ W.cell? ⟨w3.heap.size, 1, none⟩ = some (.int .i64 x.num) ∧ W.cell? ⟨w3.heap.size, 2, none⟩ = some (.string x.str) ∧ W.cell? ⟨w3.heap.size, 3, none⟩ = some (.slice xAL x.items.length xcL) ∧ W.cell? ⟨w3.heap.size, 4, none⟩ = some (.slice xAO x.vals.length xcO) from ⟨(Bg7.out.later hb).cells.1, (Bg7.out.later hb).cells.2.1, (Bg7.out.later hb).cells.2.2.1, (Bg7.out.later hb).cells.2.2.2.1, (Bg7.out.later hb).cells.2.2.2.2, (Bx7.out.later hb).cells.1, (Bx7.out.later hb).cells.2.1, (Bx7.out.later hb).cells.2.2.1, (Bx7.out.later hb).cells.2.2.2.1, (Bx7.out.later hb).cells.2.2.2.2⟩))
          go_wp2_with (go_at_call 15; refine (put_new (Bg7.out.later (Below.refl _ w7)).vl (Bx7.out.later (Below.refl _ w7)).vl (Pp7.out.later (Below.refl _ w7)) (by have := Sg.out.2; have := Sx.out.2; have := HW.out; omega) (by have := Sg.out.2; have := Sx.out.2; have := HW.out; omega) HM.out.2.2.2.2).mono ?_; rintro e ww ⟨yAL, yAO, ycL, ycO, rfl, hv, hb⟩; have HB9 : Hid (Below w7.heap.size w7 ww) := Lib.hid ((Below.refl _ w7).trans hb); have VY := Lib.hid hv; clear hv hb)
          all_goals go_meet
          all_goals first
            | (have hz := HZ9.out; exact ⟨put5_below HB9.out (Nat.le_refl _) _ _ _ _ _, rfl, _, yAL, yAO, ycL, ycO, rfl, vl_put5 VY.out.1 VY.out.2 (by simp) hz⟩)
            | exact ⟨HB9.out.alloc HB9.out.size _, rfl, _, yAL, yAO, ycL, ycO, rfl, Bx.new ⟨VY.out.1.keep (From.refl _ _) (fun _ _ _ => trivial), VY.out.2.keep (From.refl _ _) (fun _ _ _ => trivial)⟩⟩
        case rest =>
          obtain ⟨hbw, rfl, Xb, bAL, bAO, bcL, bcO, rfl, hbx⟩ := hcut
          have Bg8 := Lib.hid (Bg7.out.later hbw)
          have Bx8 := Lib.hid (Bx7.out.later hbw)
          have Bm8 := Lib.hid (Bm7.out.later hbw)
          have Bi8 := Lib.hid (Bi7.out.later hbw)
          have Ba8 := Lib.hid (Ba7.out.later hbw)
          have Pp8 := Lib.hid (Pp7.out.later hbw)
          have W8 := Lib.hid (W7.out.trans (hbw.mono W7.out.size))
          have Bb8 := Lib.hid hbx
          clear hbw hbx Bg7 Bx7 Bm7 Bi7 Ba7 Pp7 W7
          obtain ⟨w8, hv8⟩ : ∃ W, W = wc := ⟨_, rfl⟩
          rw [← hv8] at Bg8 Bx8 Bm8 Bi8 Ba8 Bb8 Pp8 W8 ⊢
          clear hv8
          go_wp2_with fail
          go_cut [21, 22] (CutG h w8)
          case first =>
            obtain ⟨f00, f01, f02, f03, f04⟩ := Bm8.out.cells
            have HSS := Lib.hid (fun (W : World) (hb : Below w8.heap.size w8 W) => (show W.cell? ⟨Xm, 0, none⟩ = some (.int .u8 mid.kind) ∧ W.cell? ⟨Xm, 1, none⟩ = some (.int .i64 mid.num) ∧ W.cell? ⟨Xm, 2, none⟩ = some (.string mid.str) ∧ W.cell? ⟨Xm, 3, none⟩ = some (.slice mAL mid.items.length mcL) ∧ W.cell? ⟨Xm, 4, none⟩ = some (.slice mAO mid.vals.length mcO) from ⟨(Bm8.out.later hb).cells.1, (Bm8.out.later hb).cells.2.1, (Bm8.out.later hb).cells.2.2.1, (Bm8.out.later hb).cells.2.2.2.1, (Bm8.out.later hb).cells.2.2.2.2⟩))
            go_region_held3 (fun W => W.cell? ⟨Xm, 0, none⟩ = some (.int .u8 mid.kind) ∧ W.cell? ⟨Xm, 1, none⟩ = some (.int .i64 mid.num) ∧ W.cell? ⟨Xm, 2, none⟩ = some (.string mid.str) ∧ W.cell? ⟨Xm, 3, none⟩ = some (.slice mAL mid.items.length mcL) ∧ W.cell? ⟨Xm, 4, none⟩ = some (.slice mAO mid.vals.length mcO))
              (first | exact HSS.out _ (put5_below HB9.out (Nat.le_refl _) _ _ _ _ _) | exact HSS.out _ (HB9.out.alloc HB9.out.size _) | exact HSS.out _ HB9.out | exact HSS.out _ ((Below.refl _ w8).alloc (Nat.le_refl _) _).drew | exact HSS.out _ (Below.refl _ w8).drew)
              (first
                | (go_at_call 14; refine (get_rest (Bm8.out.later (Below.refl _ w8).drew).vl (HD.out _ (Pp8.out.later (Below.refl _ w8).drew)) (by have := Sg.out.2; have := Sx.out.2; have := HW.out; omega) HM.out.2.1).mono ?_; rintro e ww ⟨yAL, yAO, ycL, ycO, rfl, hv, hb⟩; have HB9 : Hid (Below w8.heap.size w8 ww) := Lib.hid ((Below.refl _ w8).drew.trans hb); have VY := Lib.hid hv; clear hv hb)
                | (go_at_call 14; refine (get_rest (Bm8.out.later ((Below.refl _ w8).alloc (Nat.le_refl _) _).drew).vl (HD.out _ (Pp8.out.later ((Below.refl _ w8).alloc (Nat.le_refl _) _).drew)) (by have := Sg.out.2; have := Sx.out.2; have := HW.out; omega) HM.out.2.1).mono ?_; rintro e ww ⟨yAL, yAO, ycL, ycO, rfl, hv, hb⟩; have HZ := Lib.hid (zero_ahead hb); have HB9 : Hid (Below w8.heap.size w8 ww) := Lib.hid HZ.out.2; have VY := Lib.hid hv; have HZ9 := Lib.hid HZ.out.1; obtain ⟨x0, x1, x2, x3, x4, y0, y1, y2, y3, y4⟩ := HZ.out.1.five; clear hv hb))
            all_goals go_wp2_with fail
            all_goals go_meet
            all_goals first
              | (have hz := HZ9.out; exact ⟨put5_below HB9.out (Nat.le_refl _) _ _ _ _ _, rfl, _, yAL, yAO, ycL, ycO, rfl, vl_put5 VY.out.1 VY.out.2 (by simp) hz⟩)
              | exact ⟨HB9.out.alloc HB9.out.size _, rfl, _, yAL, yAO, ycL, ycO, rfl, Bx.new ⟨VY.out.1.keep (From.refl _ _) (fun _ _ _ => trivial), VY.out.2.keep (From.refl _ _) (fun _ _ _ => trivial)⟩⟩
          case rest =>
            obtain ⟨hbw, rfl, Xc, cAL, cAO, ccL, ccO, rfl, hbx⟩ := hcut
            have Bg9 := Lib.hid (Bg8.out.later hbw)
            have Bx9 := Lib.hid (Bx8.out.later hbw)
            have Bm9 := Lib.hid (Bm8.out.later hbw)
            have Bi9 := Lib.hid (Bi8.out.later hbw)
            have Ba9 := Lib.hid (Ba8.out.later hbw)
            have Bb9 := Lib.hid (Bb8.out.later hbw)
            have Pp9 := Lib.hid (Pp8.out.later hbw)
            have W9 := Lib.hid (W8.out.trans (hbw.mono W8.out.size))
            have Bc9 := Lib.hid hbx
            clear hbw hbx Bg8 Bx8 Bm8 Bi8 Ba8 Bb8 Pp8 W8
            obtain ⟨w9, hv9⟩ : ∃ W, W = wc := ⟨_, rfl⟩
            rw [← hv9] at Bg9 Bx9 Bm9 Bi9 Ba9 Bb9 Bc9 Pp9 W9 ⊢
            clear hv9
            go_upto_region 12 with (fail)
            go_cut [23, 24] (CutG h w9)
            case first =>
              obtain ⟨f00, f01, f02, f03, f04⟩ := Bg9.out.cells
              have HSS := Lib.hid (fun (W : World) (hb : Below w9.heap.size w9 W) => (show W.cell? ⟨w2.heap.size, 0, none⟩ = some (.int .u8 g.kind) ∧ W.cell? ⟨w2.heap.size, 1, none⟩ = some (.int .i64 g.num) ∧ W.cell? ⟨w2.heap.size, 2, none⟩ = some (.string g.str) ∧ W.cell? ⟨w2.heap.size, 3, none⟩ = some (.slice gAL g.items.length gcL) ∧ W.cell? ⟨w2.heap.size, 4, none⟩ = some (.slice gAO g.vals.length gcO) from ⟨(Bg9.out.later hb).cells.1, (Bg9.out.later hb).cells.2.1, (Bg9.out.later hb).cells.2.2.1, (Bg9.out.later hb).cells.2.2.2.1, (Bg9.out.later hb).cells.2.2.2.2⟩))
              go_wp2_with (go_at_call 14; refine (get_new (Bg9.out.later (Below.refl _ w9)).vl (Pp9.out.later (Below.refl _ w9)) (by have := Sg.out.2; have := Sx.out.2; have := HW.out; omega) HGET.out).mono ?_; rintro e ww ⟨yAL, yAO, ycL, ycO, rfl, hv, hb⟩; have HB9 : Hid (Below w9.heap.size w9 ww) := Lib.hid ((Below.refl _ w9).trans hb); have VY := Lib.hid hv; clear hv hb)
              all_goals go_meet
              all_goals first
                | (have hz := HZ9.out; exact ⟨put5_below HB9.out (Nat.le_refl _) _ _ _ _ _, rfl, _, yAL, yAO, ycL, ycO, rfl, vl_put5 VY.out.1 VY.out.2 (by simp) hz⟩)
                | exact ⟨HB9.out.alloc HB9.out.size _, rfl, _, yAL, yAO, ycL, ycO, rfl, Bx.new ⟨VY.out.1.keep (From.refl _ _) (fun _ _ _ => trivial), VY.out.2.keep (From.refl _ _) (fun _ _ _ => trivial)⟩⟩
            case rest =>
              obtain ⟨hbw, rfl, Xd, dAL, dAO, dcL, dcO, rfl, hbx⟩ := hcut
              have Bg10 := Lib.hid (Bg9.out.later hbw)
              have Bx10 := Lib.hid (Bx9.out.later hbw)
              have Bm10 := Lib.hid (Bm9.out.later hbw)
              have Bi10 := Lib.hid (Bi9.out.later hbw)
              have Ba10 := Lib.hid (Ba9.out.later hbw)
              have Bb10 := Lib.hid (Bb9.out.later hbw)
              have Bc10 := Lib.hid (Bc9.out.later hbw)
              have Pp10 := Lib.hid (Pp9.out.later hbw)
              have W10 := Lib.hid (W9.out.trans (hbw.mono W9.out.size))
              have Bd10 := Lib.hid hbx
              clear hbw hbx Bg9 Bx9 Bm9 Bi9 Ba9 Bb9 Bc9 Pp9 W9
              obtain ⟨w10, hv10⟩ : ∃ W, W = wc := ⟨_, rfl⟩
              rw [← hv10] at Bg10 Bx10 Bm10 Bi10 Ba10 Bb10 Bc10 Bd10 Pp10 W10 ⊢
              clear hv10
              clear hsl0 hsl1
              obtain ⟨f00, f01, f02, f03, f04⟩ := Ba10.out.cells
              obtain ⟨f10, f11, f12, f13, f14⟩ := Bb10.out.cells
              obtain ⟨f20, f21, f22, f23, f24⟩ := Bc10.out.cells
              obtain ⟨f30, f31, f32, f33, f34⟩ := Bd10.out.cells
              go_wp2_with (first
                | (go_at_call 16; (with_reducible refine (same_is Ba10.out.vl Bb10.out.vl (by have := Sg.out.2; have := Sx.out.2; have := HW.out; omega)).mono ?_); rintro e w11 ⟨rfl, hb⟩; have Bc11 := Lib.hid (Bc10.out.later hb); have Bd11 := Lib.hid (Bd10.out.later hb); have W11 := Lib.hid (W10.out.trans (hb.mono W10.out.size)); clear hb; obtain ⟨g20, g21, g22, g23, g24⟩ := Bc11.out.cells; obtain ⟨g30, g31, g32, g33, g34⟩ := Bd11.out.cells)
                | (go_at_call 16; refine (same_is Bc11.out.vl Bd11.out.vl (by have := Sg.out.2; have := Sx.out.2; have := HW.out; omega)).mono ?_; rintro e w12 ⟨rfl, hb⟩; have W12 := Lib.hid (W11.out.trans (hb.mono W11.out.size)); clear hb))
              go_ret
              exact ⟨rfl, W12.out⟩
end Go.Proofs.YtbmfjchdmicdoaaDoor
