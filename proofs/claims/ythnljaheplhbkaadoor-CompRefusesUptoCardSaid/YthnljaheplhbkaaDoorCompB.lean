/- Comp: a component, as it is. -/
import Derived.Test.YthnljaheplhbkaaDoorCompC
import Derived.Test.YthnljaheplhbkaaDoorHeavyX
import Derived.Test.YthnljaheplhbkaaDoorBaseR
import Derived.Deep.RegionHeld3
namespace Go.Proofs.YthnljaheplhbkaaDoor
open Go Go.RowKit
set_option linter.unusedVariables false
set_option linter.unusedSimpArgs false

/-- The component. -/
def GB.comp (x : GB) (g : GV) : GC := ⟨x.kind, x.path, x.key, x.i, x.j, x.n, g, x.s⟩
/-- The boxes of Comp. -/
structure QB (w W : World) (ca cb : Array Value) : Prop where
  a : Whole W w.heap.size 25 ca
  b : Whole W (w.heap.size + 1) 34 cb
  below : Below w.heap.size w W
theorem QB.new (w : World) (ca cb : Array Value) : QB w ((w.alloc (.cells ca 25)).alloc (.cells cb 34)) ca cb :=
  ⟨(Whole.new w _ ca).alloc _, by have := Whole.new (w.alloc (.cells ca 25)) 34 cb; rwa [World.size_alloc] at this, ((Below.refl _ _).alloc (Nat.le_refl _) _).alloc (by simp) _⟩
theorem QB.step {w W W' : World} {ca cb : Array Value} (h : QB w W ca cb) (hb : Below W.heap.size W W') : QB w W' ca cb :=
  ⟨h.a.below hb h.a.lt, h.b.below hb h.b.lt, h.below.trans (hb.mono h.below.size)⟩
def CompOut (x : GB) (B : Option Addr) (bap : Nat) (w : World) (e : Ending) (w' : World) : Prop := ∃ (g : GV) (VL VO : Option Addr) (vl vo : Nat), e = .returned (.agg #[.int .u8 x.kind, .slice B x.path.length bap, .string x.key, .int .i64 x.i, .int .i64 x.j, .int .i64 x.n, .int .u8 g.kind, .int .i64 g.num, .string g.str, .slice VL g.items.length vl, .slice VO g.vals.length vo, .string x.s]) ∧ g.weight ≤ 2 * tot x.v + 1 ∧ g.Pos ∧ Cc w' (x.comp g) B VL VO bap vl vo ∧ Below w.heap.size w w'
set_option maxRecDepth 100000 in
set_option maxHeartbeats 16000000 in
theorem comp_any (x : GB) (B : Option Addr) (bap : Nat) (D : Option Addr) (dap : Nat) (w : World) (hp : Wy w B bap x.path) (hT : Toks w.heap.size w D x.v) (hd1 : x.v.length ≤ dap) (hd2 : dap ≤ maxLen) (hl : x.v.length ≤ 1000000) (hr : ∀ t ∈ x.v, 0 ≤ t.k ∧ t.k ≤ 255 ∧ 0 ≤ t.m ∧ t.m ≤ 255) :
    Calls Tryd.prog 11 #[.agg #[.int .u8 x.kind, .slice B x.path.length bap, .string x.key, .int .i64 x.i, .int .i64 x.j, .int .i64 x.n, .string x.s, .slice D x.v.length dap]] w (CompOut x B bap w) := by
  have HRW := Lib.hid (fun W (hb : Below w.heap.size w W) => (Raw_posL w.heap.size D dap x.v W hd1 hd2 hl hb.size (hT.keep hb (Nat.le_refl _)) hr).mono (R' := fun e w' => ∃ (g : GV) (VL VO : Option Addr) (vl vo : Nat), e = .returned (.agg #[.int .u8 g.kind, .int .i64 g.num, .string g.str, .slice VL g.items.length vl, .slice VO g.vals.length vo]) ∧ (LstV (fun k => W.heap.size ≤ k) w' (.slice VL g.items.length vl) g.items ∧ ObjV (fun k => W.heap.size ≤ k) w' (.slice VO g.vals.length vo) g.keys g.vals) ∧ g.weight ≤ 2 * tot x.v + 1 ∧ g.Pos ∧ Below W.heap.size W w') fun e w' ⟨g, v, he, hv, hw, hpos, hb'⟩ => by
    obtain ⟨L, O, rfl, hL, hO⟩ := hv
    obtain ⟨VL, vl, rfl⟩ := lst_form hL
    obtain ⟨VO, vo, rfl⟩ := obj_form hO
    exact ⟨g, VL, VO, vl, vo, he, ⟨hL, hO⟩, hw, hpos, hb'⟩)
  have HP := Lib.hid hp
  have H0 := Lib.hid (QB.new w #[.int .u8 x.kind, .slice B x.path.length bap, .string x.key, .int .i64 x.i, .int .i64 x.j, .int .i64 x.n, .string x.s, .slice D x.v.length dap] #[.int .u8 0, .slice none 0 0, .string ⟨#[]⟩, .int .i64 0, .int .i64 0, .int .i64 0, .int .u8 0, .int .i64 0, .string ⟨#[]⟩, .slice none 0 0, .slice none 0 0, .string ⟨#[]⟩])
  have HS := Lib.hid (fun (W : World) (h : Whole W w.heap.size 25 #[.int .u8 x.kind, .slice B x.path.length bap, .string x.key, .int .i64 x.i, .int .i64 x.j, .int .i64 x.n, .string x.s, .slice D x.v.length dap]) => (show W.cell? ⟨w.heap.size, 0, none⟩ = some (.int .u8 x.kind) ∧ W.cell? ⟨w.heap.size, 1, none⟩ = some (.slice B x.path.length bap) ∧ W.cell? ⟨w.heap.size, 2, none⟩ = some (.string x.key) ∧ W.cell? ⟨w.heap.size, 3, none⟩ = some (.int .i64 x.i) ∧ W.cell? ⟨w.heap.size, 4, none⟩ = some (.int .i64 x.j) ∧ W.cell? ⟨w.heap.size, 5, none⟩ = some (.int .i64 x.n) ∧ W.cell? ⟨w.heap.size, 6, none⟩ = some (.string x.s) ∧ W.cell? ⟨w.heap.size, 7, none⟩ = some (.slice D x.v.length dap) from ⟨(h.cell 0).trans rfl, (h.cell 1).trans rfl, (h.cell 2).trans rfl, (h.cell 3).trans rfl, (h.cell 4).trans rfl, (h.cell 5).trans rfl, (h.cell 6).trans rfl, (h.cell 7).trans rfl⟩))
  clear hp hT hd1 hd2 hl hr
  go_enter Tryd.func11, Tryd.ntmps11
  go_wp2
  have hs0 : ((w.alloc (.cells #[.int .u8 x.kind, .slice B x.path.length bap, .string x.key, .int .i64 x.i, .int .i64 x.j, .int .i64 x.n, .string x.s, .slice D x.v.length dap] 25)).alloc (.cells #[.int .u8 0, .slice none 0 0, .string ⟨#[]⟩, .int .i64 0, .int .i64 0, .int .i64 0, .int .u8 0, .int .i64 0, .string ⟨#[]⟩, .slice none 0 0, .slice none 0 0, .string ⟨#[]⟩] 34)).heap.size = w.heap.size + 1 + 1 := by simp
  generalize ((w.alloc (.cells #[.int .u8 x.kind, .slice B x.path.length bap, .string x.key, .int .i64 x.i, .int .i64 x.j, .int .i64 x.n, .string x.s, .slice D x.v.length dap] 25)).alloc (.cells #[.int .u8 0, .slice none 0 0, .string ⟨#[]⟩, .int .i64 0, .int .i64 0, .int .i64 0, .int .u8 0, .int .i64 0, .string ⟨#[]⟩, .slice none 0 0, .slice none 0 0, .string ⟨#[]⟩] 34)) = W0 at *
  have HZ0 := Lib.hid hs0
  have HA0 := Lib.hid (show Whole W0.drew w.heap.size 25 #[.int .u8 x.kind, .slice B x.path.length bap, .string x.key, .int .i64 x.i, .int .i64 x.j, .int .i64 x.n, .string x.s, .slice D x.v.length dap] from H0.out.a.of_eq rfl)
  clear hs0
  go_region_held3 (fun W => W.cell? ⟨w.heap.size, 0, none⟩ = some (.int .u8 x.kind) ∧ W.cell? ⟨w.heap.size, 1, none⟩ = some (.slice B x.path.length bap) ∧ W.cell? ⟨w.heap.size, 2, none⟩ = some (.string x.key) ∧ W.cell? ⟨w.heap.size, 3, none⟩ = some (.int .i64 x.i) ∧ W.cell? ⟨w.heap.size, 4, none⟩ = some (.int .i64 x.j) ∧ W.cell? ⟨w.heap.size, 5, none⟩ = some (.int .i64 x.n) ∧ W.cell? ⟨w.heap.size, 6, none⟩ = some (.string x.s) ∧ W.cell? ⟨w.heap.size, 7, none⟩ = some (.slice D x.v.length dap))
    (first
      | (with_reducible exact HS.out W0.drew HA0.out)
      | (with_reducible exact HS.out W0 H0.out.a)
      | (with_reducible exact HS.out w1 H1.out.1.a)
      | exact HS.out _ (by repeat (first | (with_reducible exact H1.out.1.a) | refine Whole.far ?_ (by simp) _)))
    (first
      | (go_at_call 31; refine (HRW.out W0.drew H0.out.below.drew).mono ?_; rintro e w1 ⟨g, VL, VO, vl, vo, rfl, hv, hw, hpos, hb⟩; have H1 := Lib.hid (And.intro (H0.out.step ((Below.refl W0.heap.size W0).drew.trans hb)) (And.intro (And.intro hv (And.intro hw hpos)) (And.intro (show w.heap.size + 1 + 1 ≤ W0.drew.heap.size from Nat.le_of_eq HZ0.out.symm) (H0.out.below.drew.trans (hb.mono H0.out.below.size))))); obtain ⟨b0, b1, b2, b3, b4, b5, b6, b7, b8, b9, b10, b11, y0, y1, y2, y3, y4, y5, y6, y7, y8, y9, y10, y11⟩ := H1.out.1.b.tw; clear hv hw hpos hb))
  all_goals
    go_wp2
    have hXb := put12 H1.out.1.b (.int .u8 x.kind) (.slice B x.path.length bap) (.string x.key) (.int .i64 x.i) (.int .i64 x.j) (.int .i64 x.n) (.int .u8 g.kind) (.int .i64 g.num) (.string g.str) (.slice VL g.items.length vl) (.slice VO g.vals.length vo) (.string x.s)
    have hk := (((((((((((((Kp.refl (w.heap.size + 1 + 1) w1).set (p := ⟨w.heap.size + 1, 0, none⟩) (by simp) (.int .u8 x.kind)).set (p := ⟨w.heap.size + 1, 1, none⟩) (by simp) (.slice B x.path.length bap)).set (p := ⟨w.heap.size + 1, 2, none⟩) (by simp) (.string x.key)).set (p := ⟨w.heap.size + 1, 3, none⟩) (by simp) (.int .i64 x.i)).set (p := ⟨w.heap.size + 1, 4, none⟩) (by simp) (.int .i64 x.j)).set (p := ⟨w.heap.size + 1, 5, none⟩) (by simp) (.int .i64 x.n)).set (p := ⟨w.heap.size + 1, 6, none⟩) (by simp) (.int .u8 g.kind)).set (p := ⟨w.heap.size + 1, 7, none⟩) (by simp) (.int .i64 g.num)).set (p := ⟨w.heap.size + 1, 8, none⟩) (by simp) (.string g.str)).set (p := ⟨w.heap.size + 1, 9, none⟩) (by simp) (.slice VL g.items.length vl)).set (p := ⟨w.heap.size + 1, 10, none⟩) (by simp) (.slice VO g.vals.length vo)).set (p := ⟨w.heap.size + 1, 11, none⟩) (by simp) (.string x.s))
    have hbel := ((((((((((((H1.out.2.2.2.setCell (p := ⟨w.heap.size + 1, 0, none⟩) (Nat.le_succ _) (.int .u8 x.kind)).setCell (p := ⟨w.heap.size + 1, 1, none⟩) (Nat.le_succ _) (.slice B x.path.length bap)).setCell (p := ⟨w.heap.size + 1, 2, none⟩) (Nat.le_succ _) (.string x.key)).setCell (p := ⟨w.heap.size + 1, 3, none⟩) (Nat.le_succ _) (.int .i64 x.i)).setCell (p := ⟨w.heap.size + 1, 4, none⟩) (Nat.le_succ _) (.int .i64 x.j)).setCell (p := ⟨w.heap.size + 1, 5, none⟩) (Nat.le_succ _) (.int .i64 x.n)).setCell (p := ⟨w.heap.size + 1, 6, none⟩) (Nat.le_succ _) (.int .u8 g.kind)).setCell (p := ⟨w.heap.size + 1, 7, none⟩) (Nat.le_succ _) (.int .i64 g.num)).setCell (p := ⟨w.heap.size + 1, 8, none⟩) (Nat.le_succ _) (.string g.str)).setCell (p := ⟨w.heap.size + 1, 9, none⟩) (Nat.le_succ _) (.slice VL g.items.length vl)).setCell (p := ⟨w.heap.size + 1, 10, none⟩) (Nat.le_succ _) (.slice VO g.vals.length vo)).setCell (p := ⟨w.heap.size + 1, 11, none⟩) (Nat.le_succ _) (.string x.s))
    generalize ((((((((((((w1.setCell ⟨w.heap.size + 1, 0, none⟩ (.int .u8 x.kind)).setCell ⟨w.heap.size + 1, 1, none⟩ (.slice B x.path.length bap)).setCell ⟨w.heap.size + 1, 2, none⟩ (.string x.key)).setCell ⟨w.heap.size + 1, 3, none⟩ (.int .i64 x.i)).setCell ⟨w.heap.size + 1, 4, none⟩ (.int .i64 x.j)).setCell ⟨w.heap.size + 1, 5, none⟩ (.int .i64 x.n)).setCell ⟨w.heap.size + 1, 6, none⟩ (.int .u8 g.kind)).setCell ⟨w.heap.size + 1, 7, none⟩ (.int .i64 g.num)).setCell ⟨w.heap.size + 1, 8, none⟩ (.string g.str)).setCell ⟨w.heap.size + 1, 9, none⟩ (.slice VL g.items.length vl)).setCell ⟨w.heap.size + 1, 10, none⟩ (.slice VO g.vals.length vo)).setCell ⟨w.heap.size + 1, 11, none⟩ (.string x.s)) = X at *
    obtain ⟨d0, d1, d2, d3, d4, d5, d6, d7, d8, d9, d10, d11, _⟩ := hXb.tw
    have hsz := H1.out.2.2.1
    have HX := Lib.hid (And.intro hk hbel)
    clear hXb hk hbel
    refine bodyPost_ret (v := .agg #[.int .u8 x.kind, .slice B x.path.length bap, .string x.key, .int .i64 x.i, .int .i64 x.j, .int .i64 x.n, .int .u8 g.kind, .int .i64 g.num, .string g.str, .slice VL g.items.length vl, .slice VO g.vals.length vo, .string x.s]) (by simp [results, Tryd.results11, go_sem, d0, d1, d2, d3, d4, d5, d6, d7, d8, d9, d10, d11]) rfl ?_
    exact ⟨g, VL, VO, vl, vo, rfl, H1.out.2.1.2.1, H1.out.2.1.2.2, ⟨HP.out.later HX.out.2, ⟨H1.out.2.1.1.1.keep (fun k hk1 hl => HX.out.1.2 k (by omega) hl) (fun _ _ _ => trivial), H1.out.2.1.1.2.keep (fun k hk1 hl => HX.out.1.2 k (by omega) hl) (fun _ _ _ => trivial)⟩⟩, HX.out.2⟩
end Go.Proofs.YthnljaheplhbkaaDoor
