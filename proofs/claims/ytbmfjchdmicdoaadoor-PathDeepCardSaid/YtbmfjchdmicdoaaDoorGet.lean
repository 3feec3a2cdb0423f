/- Get, the program's. -/
import Derived.Test.YtbmfjchdmicdoaaDoorLook
import Derived.Test.YtbmfjchdmicdoaaDoorCopy
namespace Go.Proofs.YtbmfjchdmicdoaaDoor
open Go Go.RowKit

def zeroV : Value := .agg #[.int .u8 0, .int .i64 0, .string ⟨#[]⟩, .slice none 0 0, .slice none 0 0]
/-- What lies at X, once the copy is there. -/
def Got (h : GV) (X lo : Nat) (W : World) : Prop :=
  ∃ AL cL AO cO, Whole W X 29 #[.int .u8 h.kind, .int .i64 h.num, .string h.str, .slice AL h.items.length cL, .slice AO h.vals.length cO] ∧ LstV (fun k => lo ≤ k) W (.slice AL h.items.length cL) h.items ∧ ObjV (fun k => lo ≤ k) W (.slice AO h.vals.length cO) h.keys h.vals

theorem whole_put5 {W : World} {X : Nat} {t : TypeId} {z0 z1 z2 z3 z4 : Value} (h : Whole W X t #[z0, z1, z2, z3, z4]) (a0 a1 a2 a3 a4 : Value) : Whole (put5 W X a0 a1 a2 a3 a4) X t #[a0, a1, a2, a3, a4] :=
  ((((h.put 0 a0).put 1 a1).put 2 a2).put 3 a3).put 4 a4

set_option maxHeartbeats 2000000 in
theorem get1_at (ok : Nat → Prop) (b off : Nat) (h : GV) (X : Nat) (z0 z1 z2 z3 z4 : Value) (W : World) (hat : h.at ok W b off) (hX : Whole W X 29 #[z0, z1, z2, z3, z4]) (hw : h.weight ≤ 1000000000) :
    Calls Tryd.prog 29 #[.pointer (some ⟨b, off, none⟩), .pointer (some ⟨X, 0, none⟩)] W fun e w' => e = .returned (.tuple #[]) ∧ Got h X W.heap.size w' ∧ Below X W w' := by
  obtain ⟨AL, AO, cL, cO, hsp⟩ := hat.spot
  have hcall := (val_Copy ok _ h W ⟨_, _, rfl, hsp.lst, hsp.obj⟩ hw).mono (R' := fun e w' => ∃ BL dL BO dO, e = .returned (.agg #[.int .u8 h.kind, .int .i64 h.num, .string h.str, .slice BL h.items.length dL, .slice BO h.vals.length dO]) ∧
      LstV (fun k => W.heap.size ≤ k) w' (.slice BL h.items.length dL) h.items ∧ ObjV (fun k => W.heap.size ≤ k) w' (.slice BO h.vals.length dO) h.keys h.vals ∧ Below W.heap.size W w') fun e w' ⟨v', he, ⟨L, O, hv, hL, hO⟩, hb⟩ => by
    subst hv
    obtain ⟨BL, dL, rfl⟩ := lst_form hL
    obtain ⟨BO, dO, rfl⟩ := obj_form hO
    exact ⟨BL, dL, BO, dO, he, hL, hO, hb⟩
  have HC := Lib.hid hcall
  have HX := Lib.hid hX
  obtain ⟨c0, c1, c2, c3, c4, _, _⟩ := hsp
  clear hcall hX hat
  go_enter Tryd.func29, Tryd.ntmps29
  go_wp2_with (go_at_call 30; refine HC.out.mono ?_; rintro e w1 ⟨BL, dL, BO, dO, rfl, hL, hO, hb1⟩; obtain ⟨x0, x1, x2, x3, x4, y0, y1, y2, y3, y4⟩ := (HX.out.below hb1 HX.out.lt).five; have HB1 := Lib.hid hb1; have HV := Lib.hid (And.intro hL hO); clear hb1 hL hO)
  go_end0
  have h1 := HX.out.below HB1.out HX.out.lt
  have hlt := HX.out.lt
  refine ⟨rfl, ⟨BL, dL, BO, dO, whole_put5 h1 _ _ _ _ _, HV.out.1.keep (fun k hk _ => put5_block _ _ _ _ _ _ _ _ (by omega)) (fun k hk _ => hk), HV.out.2.keep (fun k hk _ => put5_block _ _ _ _ _ _ _ _ (by omega)) (fun k hk _ => hk)⟩, ?_⟩
  exact put5_below (HB1.out.mono (Nat.le_of_lt hlt)) (Nat.le_refl _) _ _ _ _ _

def ZC : Array Value := #[.int .u8 0, .int .i64 0, .string ⟨#[]⟩, .slice none 0 0, .slice none 0 0]
def GetPost (g : GV) (ps : List GStep) (w : World) (e : Ending) (w' : World) : Prop :=
  Below w.heap.size w w' ∧ ((g.get ps = none ∧ e = .returned (.tuple #[zeroV, .int .u16 30])) ∨ ∃ h v', g.get ps = some h ∧ e = .returned (.tuple #[v', .int .u16 0]) ∧ h.val (fun k => w.heap.size ≤ k) w' v')

/-- The world in which reach is called. -/
structure Boxed (w : World) (g : GV) (AL AO : Option Addr) (cL cO : Nat) (W : World) : Prop where
  size : W.heap.size = w.heap.size + 1 + 1 + 1
  below : Below w.heap.size w W
  spot : Spot (fun _ => True) W w.heap.size 0 g AL AO cL cO
  res : Whole W (w.heap.size + 1) 29 ZC
  x : Whole W (w.heap.size + 1 + 1) 29 ZC
theorem boxed {ok : Nat → Prop} {w : World} {g : GV} {AL AO : Option Addr} {cL cO : Nat} (hL : LstV ok w (.slice AL g.items.length cL) g.items) (hO : ObjV ok w (.slice AO g.vals.length cO) g.keys g.vals) :
    Boxed w g AL AO cL cO (((w.alloc (.cells #[.int .u8 g.kind, .int .i64 g.num, .string g.str, .slice AL g.items.length cL, .slice AO g.vals.length cO] 29)).alloc (.cells ZC 29)).alloc (.cells ZC 29)) := by
  have hb : Below w.heap.size w (((w.alloc (.cells #[.int .u8 g.kind, .int .i64 g.num, .string g.str, .slice AL g.items.length cL, .slice AO g.vals.length cO] 29)).alloc (.cells ZC 29)).alloc (.cells ZC 29)) :=
    (((Below.refl _ w).alloc (Nat.le_refl _) _).alloc (by simp) _).alloc (by simp; omega) _
  have h1 := ((Whole.new w 29 #[.int .u8 g.kind, .int .i64 g.num, .string g.str, .slice AL g.items.length cL, .slice AO g.vals.length cO]).alloc (.cells ZC 29)).alloc (.cells ZC 29)
  have h2 := (Whole.new (w.alloc (.cells #[.int .u8 g.kind, .int .i64 g.num, .string g.str, .slice AL g.items.length cL, .slice AO g.vals.length cO] 29)) 29 ZC).alloc (.cells ZC 29)
  have h3 := Whole.new ((w.alloc (.cells #[.int .u8 g.kind, .int .i64 g.num, .string g.str, .slice AL g.items.length cL, .slice AO g.vals.length cO] 29)).alloc (.cells ZC 29)) 29 ZC
  rw [World.size_alloc] at h2
  rw [World.size_alloc, World.size_alloc] at h3
  obtain ⟨c0, c1, c2, c3, c4, _⟩ := h1.five
  exact ⟨by simp, hb, ⟨c0, c1, c2, c3, c4, hL.keep (From.of_below hb) (fun _ _ _ => trivial), hO.keep (From.of_below hb) (fun _ _ _ => trivial)⟩, h2, h3⟩

set_option maxHeartbeats 4000000 in
theorem path_Get (ok : Nat → Prop) (v : Value) (g : GV) (hi : Nat) (A : Option Addr) (cap : Nat) (ps : List GStep) (w : World) (hv : g.val ok w v) (hp : Steps hi w A ps) (hhi : hi ≤ w.heap.size) (hcap : ps.length ≤ cap) (hm : cap ≤ maxLen) (hw : g.weight ≤ 1000000000) :
    Calls Tryd.prog 14 #[v, .slice A ps.length cap] w (GetPost g ps w) := by
  obtain ⟨L, O, rfl, hL, hO⟩ := hv
  obtain ⟨AL, cL, rfl⟩ := lst_form hL
  obtain ⟨AO, cO, rfl⟩ := obj_form hO
  have hbox := boxed hL hO
  have hcall : ∀ W, Boxed w g AL AO cL cO W → Calls Tryd.prog 27 #[.pointer (some ⟨w.heap.size, 0, none⟩), .slice A ps.length cap, .func (.func 28) #[] #[], .func (.func 29) #[] #[.pointer (some ⟨w.heap.size + 1 + 1, 0, none⟩)]] W
      fun e w' => (g.get ps = none ∧ e = .returned (.int .u16 30) ∧ Below W.heap.size W w') ∨ ∃ h, g.get ps = some h ∧ e = .returned (.int .u16 0) ∧ Got h (w.heap.size + 1 + 1) (w.heap.size + 1 + 1 + 1) w' ∧ Below (w.heap.size + 1 + 1) W w' := fun W hB =>
    reach_look _ _ _ (enters_of Tryd.func29 (by kernel_rfl) rfl) (fun _ => True) _ _ g hi A cap ps W hB.spot.at (hp.keep (hB.below.mono hhi) (Nat.le_refl _)) (by have := hB.below.size; omega) hcap hm (fun W' hg hb => .inl ⟨hg, rfl, hb⟩)
      (fun W' b o h hg hb hat => (get1_at (fun _ => True) b o h (w.heap.size + 1 + 1) _ _ _ _ _ W' hat (hB.x.below hb hB.x.lt) (Nat.le_trans (get_weight _ _ _ hg) hw)).mono fun e w' ⟨he, ⟨BL, dL, BO, dO, h1, h2, h3⟩, hb'⟩ =>
        ⟨he, .inr ⟨h, hg, rfl, ⟨BL, dL, BO, dO, h1, h2.keep (From.refl _ _) (fun k hk _ => by have := hB.size; have := hb.size; omega), h3.keep (From.refl _ _) (fun k hk _ => by have := hB.size; have := hb.size; omega)⟩, (hb.mono (by have := hB.size; omega)).trans hb'⟩⟩)
  have HBOX := Lib.hid hbox
  clear hbox hp hL hO
  cases hg : g.get ps with
  | none =>
    have hc2 := fun W hB => (hcall W hB).mono (R' := fun e w' => e = .returned (.int .u16 30) ∧ Below W.heap.size W w') fun e w' hq => hq.elim (fun h => h.2) (fun ⟨_, h, _⟩ => by rw [hg] at h; cases h)
    have HC := Lib.hid hc2
    have HG := Lib.hid hg
    clear hcall hc2 hg
    go_enter Tryd.func14, Tryd.ntmps14
    go_wp2_with (go_at_call 27; refine (HC.out _ HBOX.out).mono ?_; rintro e w1 ⟨rfl, hb⟩; obtain ⟨x0, x1, x2, x3, x4, _⟩ := (HBOX.out.x.below hb HBOX.out.x.lt).five; obtain ⟨r0, r1, r2, r3, r4, f0, f1, f2, f3, f4⟩ := (HBOX.out.res.below hb HBOX.out.res.lt).five; have HB1 := Lib.hid hb; clear hb)
    have h5 := whole_put5 (HBOX.out.res.below HB1.out HBOX.out.res.lt) (.int .u8 0) (.int .i64 0) (.string ⟨#[]⟩) (.slice none 0 0) (.slice none 0 0)
    obtain ⟨d0, d1, d2, d3, d4, _⟩ := h5.five
    unfold put5 at d0 d1 d2 d3 d4
    refine bodyPost_ret (v := .tuple #[zeroV, .int .u16 30]) (by simp [results, Tryd.results14, go_sem, zeroV, d0, d1, d2, d3, d4]) rfl ?_
    refine ⟨?_, .inl ⟨HG.out, rfl⟩⟩
    exact put5_below (HBOX.out.below.trans (HB1.out.mono HBOX.out.below.size)) (by omega) _ _ _ _ _
  | some h =>
    have hc2 := fun W hB => (hcall W hB).mono (R' := fun e w' => e = .returned (.int .u16 0) ∧ Got h (w.heap.size + 1 + 1) (w.heap.size + 1 + 1 + 1) w' ∧ Below (w.heap.size + 1 + 1) W w') fun e w' hq => hq.elim (fun h => by rw [hg] at h; cases h.1) (fun ⟨_, h, h2⟩ => by rw [hg] at h; cases h; exact h2)
    have HC := Lib.hid hc2
    have HG := Lib.hid hg
    clear hcall hc2 hg
    go_enter Tryd.func14, Tryd.ntmps14
    go_wp2_with (go_at_call 27; refine (HC.out _ HBOX.out).mono ?_; rintro e w1 ⟨rfl, ⟨BL, dL, BO, dO, hx, hL, hO⟩, hb⟩; obtain ⟨x0, x1, x2, x3, x4, _⟩ := hx.five; obtain ⟨r0, r1, r2, r3, r4, f0, f1, f2, f3, f4⟩ := (HBOX.out.res.below hb (Nat.lt_succ_self _)).five; have HB1 := Lib.hid hb; have HV := Lib.hid (And.intro hL hO); clear hb hL hO hx)
    have h5 := whole_put5 (HBOX.out.res.below HB1.out (Nat.lt_succ_self _)) (.int .u8 h.kind) (.int .i64 h.num) (.string h.str) (.slice BL h.items.length dL) (.slice BO h.vals.length dO)
    obtain ⟨d0, d1, d2, d3, d4, _⟩ := h5.five
    unfold put5 at d0 d1 d2 d3 d4
    refine bodyPost_ret (v := .tuple #[.agg #[.int .u8 h.kind, .int .i64 h.num, .string h.str, .slice BL h.items.length dL, .slice BO h.vals.length dO], .int .u16 0]) (by simp [results, Tryd.results14, go_sem, d0, d1, d2, d3, d4]) rfl ?_
    refine ⟨put5_below (HBOX.out.below.trans (HB1.out.mono (by omega))) (by omega) _ _ _ _ _, .inr ⟨h, _, HG.out, rfl, _, _, rfl, ?_, ?_⟩⟩
    · exact HV.out.1.keep (fun k hk _ => put5_block _ _ _ _ _ _ _ _ (by omega)) (fun k hk _ => by omega)
    · exact HV.out.2.keep (fun k hk _ => put5_block _ _ _ _ _ _ _ _ (by omega)) (fun k hk _ => by omega)
end Go.Proofs.YtbmfjchdmicdoaaDoor
