/- Texts in one: RcE, CompB. -/
import Derived.Test.YtamlaknfakaanaaGreatDoorQ43
import Derived.Test.YtamlaknfakaanaaGreatDoorQ38
import Derived.Test.YtamlaknfakaanaaGreatDoorQ16
import Derived.Test.YtamlaknfakaanaaGreatDoorQ18
import Derived.Test.YtamlaknfakaanaaGreatDoorQ17
import Derived.Deep.RegionHeld3
namespace Go.Proofs.YtamlaknfakaanaaGreatDoor
open Go Go.RowKit Go.Shelf
set_option linter.unusedVariables false
set_option linter.unusedSimpArgs false
set_option maxRecDepth 100000 in
set_option maxHeartbeats 4000000 in
theorem docD_no (g : GV) (GL GO : Option Addr) (eL eO : Nat) (c : GC) (A AL AO : Option Addr) (cp cL cO : Nat) (w : World) (hg : Vl w g GL GO eL eO) (hc : Cc w c A AL AO cp cL cO) (hgw : g.weight ≤ 1000000) (hs : Small c) (hpos : c.v.Pos) (hT : Tabs w) (n : Int) (hn : ChkIs g c n) (h0 : n ≠ 0) :
    Calls Tryz.prog 11 #[.agg #[.int .u8 g.kind, .int .i64 g.num, .string g.str, .slice GL g.items.length eL, .slice GO g.vals.length eO], .agg #[.int .u8 c.kind, .slice A c.path.length cp, .string c.key, .int .i64 c.i, .int .i64 c.j, .int .i64 c.n, .int .u8 c.v.kind, .int .i64 c.v.num, .string c.v.str, .slice AL c.v.items.length cL, .slice AO c.v.vals.length cO, .string c.s]] w fun e w' => e = .returned (.tuple #[.agg #[.int .u8 0, .int .i64 0, .string ⟨#[]⟩, .slice none 0 0, .slice none 0 0], .int .i64 n]) ∧ Below w.heap.size w w' := by
  have H0 := Lib.hid (DB.new w #[.int .u8 g.kind, .int .i64 g.num, .string g.str, .slice GL g.items.length eL, .slice GO g.vals.length eO] #[.int .u8 c.kind, .slice A c.path.length cp, .string c.key, .int .i64 c.i, .int .i64 c.j, .int .i64 c.n, .int .u8 c.v.kind, .int .i64 c.v.num, .string c.v.str, .slice AL c.v.items.length cL, .slice AO c.v.vals.length cO, .string c.s] #[.int .u8 0, .int .i64 0, .string ⟨#[]⟩, .slice none 0 0, .slice none 0 0])
  have HCK := Lib.hid (fun W (hb : Below w.heap.size w W) => (ref_CheckC g GL GO eL eO c A AL AO cp cL cO W (hg.later hb) (hc.later hb) (by omega) hs hpos (hT.below hb (Nat.le_refl _))).mono (R' := fun e w' => e = .returned (.int .i64 n) ∧ Below W.heap.size W w') fun e w' ⟨m, he, hm, hb'⟩ => ⟨by rw [he, chk_one hm hn], hb'⟩)
  have hne : (n != 0) = true := by simpa using h0
  have HN0 := Lib.hid h0
  clear hg hc hgw hs hpos hT hn h0
  obtain ⟨g0, g1, g2, g3, g4, _⟩ := H0.out.g.five
  obtain ⟨c0, c1, c2, c3, c4, c5, c6, c7, c8, c9, c10, c11, _⟩ := H0.out.c.tw
  go_enter Tryz.func11, Tryz.ntmps11
  go_wp2_with (go_at_call 14; refine (HCK.out _ H0.out.below).mono ?_; rintro e w1 ⟨rfl, hb⟩; have H1 := Lib.hid (H0.out.later hb); clear hb g0 g1 g2 g3 g4 c0 c1 c2 c3 c4 c5 c6 c7 c8 c9 c10 c11; obtain ⟨r0, r1, r2, r3, r4, f0, f1, f2, f3, f4⟩ := H1.out.r.five)
  have h5 := whole_put5 H1.out.r (.int .u8 0) (.int .i64 0) (.string ⟨#[]⟩) (.slice none 0 0) (.slice none 0 0)
  obtain ⟨d0, d1, d2, d3, d4, _⟩ := h5.five
  unfold put5 at d0 d1 d2 d3 d4
  refine bodyPost_ret (v := .tuple #[.agg #[.int .u8 0, .int .i64 0, .string ⟨#[]⟩, .slice none 0 0, .slice none 0 0], .int .i64 n]) (by simp [results, Tryz.results11, go_sem, d0, d1, d2, d3, d4]) rfl ?_
  exact ⟨rfl, put5_below H1.out.below (by omega) _ _ _ _ _⟩
def Outc (g : GV) (c : GC) (y : GV) (n : Int) : Prop := ChkIs g c n ∧ ((n ≠ 0 ∧ y = noG) ∨ (n = 0 ∧ c.Sound ∧ ∃ h, g.get c.path = some h ∧ chkH h c = 0 ∧ g.put (doH h c) c.path = some y))
theorem chk_ex (g : GV) (c : GC) : ∃ n, ChkIs g c n := by
  by_cases hS : c.Sound
  · cases hget : g.get c.path with
    | none => exact ⟨30, .inr ⟨hS, .inl ⟨hget, rfl⟩⟩⟩
    | some h => exact ⟨chkH h c, .inr ⟨hS, .inr ⟨h, hget, rfl⟩⟩⟩
  · exact ⟨60, .inl ⟨hS, rfl⟩⟩
theorem chk_range {g : GV} {c : GC} {n : Int} (h : ChkIs g c n) : 0 ≤ n ∧ n ≤ 60 := by
  rcases h with ⟨_, rfl⟩ | ⟨_, ⟨_, rfl⟩ | ⟨k, _, rfl⟩⟩
  · omega
  · omega
  · unfold chkH chkL chkT
    repeat' split
    all_goals omega
theorem outc_some (g : GV) (c : GC) : ∃ y n, Outc g c y n := by
  obtain ⟨n, hn⟩ := chk_ex g c
  by_cases h0 : n = 0
  · subst h0
    rcases hn with ⟨_, h⟩ | ⟨hS, ⟨_, h⟩ | ⟨h, h1, h2⟩⟩
    · cases h
    · cases h
    · obtain ⟨y, hy⟩ := put_some (doH h c) h1
      exact ⟨y, 0, .inr ⟨hS, .inr ⟨h, h1, h2⟩⟩, .inr ⟨rfl, hS, h, h1, h2.symm, hy⟩⟩
  · exact ⟨noG, n, hn, .inl ⟨h0, rfl⟩⟩
theorem Outc.weight {g : GV} {c : GC} {y : GV} {n : Int} (h : Outc g c y n) (hs : Small c) : y.weight ≤ 3 * g.weight + 3000100 := by
  obtain ⟨_, ⟨_, rfl⟩ | ⟨_, hS, k, h1, h2, h3⟩⟩ := h
  · have := vok_no.2.2.1; omega
  · have h4 := put_weight _ _ _ h3
    have h5 := get_weight _ _ _ h1
    have h6 := doH_weight k c
    have h7 := hs.v
    have h8 := hs.k
    have h9 := hs.s
    omega
def DoA (y : GV) (r : Value) (w : World) (e : Ending) (w' : World) : Prop := ∃ BL BO dB dP, e = .returned (.tuple #[.agg #[.int .u8 y.kind, .int .i64 y.num, .string y.str, .slice BL y.items.length dB, .slice BO y.vals.length dP], r]) ∧ VlNew w.heap.size w' y BL BO dB dP ∧ Below w.heap.size w w'
theorem vlnew_no (n : Nat) (W : World) : VlNew n W noG none none 0 0 := ⟨.inl ⟨rfl, rfl⟩, ⟨rfl, .inl ⟨rfl, rfl⟩⟩⟩
theorem VlNew.vl {n : Nat} {W : World} {y : GV} {BL BO : Option Addr} {dL dO : Nat} (h : VlNew n W y BL BO dL dO) : Vl W y BL BO dL dO := ⟨h.1.keep (From.refl _ _) (fun _ _ _ => trivial), h.2.keep (From.refl _ _) (fun _ _ _ => trivial)⟩
theorem comp_DoO (g : GV) (GL GO : Option Addr) (eL eO : Nat) (c : GC) (A AL AO : Option Addr) (cp cL cO : Nat) (w : World) (hg : Vl w g GL GO eL eO) (hc : Cc w c A AL AO cp cL cO) (hgw : g.weight ≤ 1000000) (hs : Small c) (hT : Tabs w) {y : GV} {n : Int} (ho : Outc g c y n) :
    Calls Tryz.prog 10 #[.agg #[.int .u8 g.kind, .int .i64 g.num, .string g.str, .slice GL g.items.length eL, .slice GO g.vals.length eO], .agg #[.int .u8 c.kind, .slice A c.path.length cp, .string c.key, .int .i64 c.i, .int .i64 c.j, .int .i64 c.n, .int .u8 c.v.kind, .int .i64 c.v.num, .string c.v.str, .slice AL c.v.items.length cL, .slice AO c.v.vals.length cO, .string c.s]] w (DoA y (.int .u16 n) w) :=
  (comp_DoA g GL GO eL eO c A AL AO cp cL cO w hg hc hgw hs hT).mono fun e w' ⟨hb, m, hm, hr⟩ => by
    obtain rfl := chk_one hm ho.1
    rcases hr with ⟨h0, he⟩ | ⟨h0, h, y', BL, BO, dL, dO, h1, h2, h3, he, _, hv⟩
    · rcases ho.2 with ⟨_, rfl⟩ | ⟨h, _⟩
      · exact ⟨none, none, 0, 0, he, vlnew_no _ _, hb⟩
      · exact absurd h h0
    · rcases ho.2 with ⟨h, _⟩ | ⟨_, _, k, k1, k2, k3⟩
      · exact absurd h0 h
      · rw [h1] at k1
        cases k1
        rw [h3] at k3
        cases k3
        exact ⟨BL, BO, dL, dO, by rw [he, h0], hv, hb⟩
theorem ref_DoO (g : GV) (GL GO : Option Addr) (eL eO : Nat) (c : GC) (A AL AO : Option Addr) (cp cL cO : Nat) (w : World) (hg : Vl w g GL GO eL eO) (hc : Cc w c A AL AO cp cL cO) (hgw : g.weight ≤ 1000000) (hs : Small c) (hpos : c.v.Pos) (hgs : g.Sound) (hT : Tabs w) {y : GV} {n : Int} (ho : Outc g c y n) :
    Calls Tryz.prog 11 #[.agg #[.int .u8 g.kind, .int .i64 g.num, .string g.str, .slice GL g.items.length eL, .slice GO g.vals.length eO], .agg #[.int .u8 c.kind, .slice A c.path.length cp, .string c.key, .int .i64 c.i, .int .i64 c.j, .int .i64 c.n, .int .u8 c.v.kind, .int .i64 c.v.num, .string c.v.str, .slice AL c.v.items.length cL, .slice AO c.v.vals.length cO, .string c.s]] w (DoA y (.int .i64 n) w) := by
  obtain ⟨hn, ⟨h0, rfl⟩ | ⟨rfl, hS, h, h1, h2, h3⟩⟩ := ho
  · exact (docD_no g GL GO eL eO c A AL AO cp cL cO w hg hc hgw hs hpos hT n hn h0).mono fun e w' ⟨he, hb⟩ => ⟨none, none, 0, 0, he, vlnew_no _ _, hb⟩
  · have hgh := get_soundG _ _ _ hgs h1
    have hk := hS.2.2.2.2.1.1
    rcases (show c.kind = 1 ∨ c.kind = 2 ∨ c.kind = 3 ∨ (4 ≤ c.kind ∧ c.kind ≤ 7) ∨ c.kind = 8 ∨ c.kind = 9 by omega) with q | q | q | q | q | q
    · exact docD_a g GL GO eL eO c A AL AO cp cL cO w hg hc hgw hs hpos hT h y hS h1 h2 h3 hgh q
    · exact docD_f2 g GL GO eL eO c A AL AO cp cL cO w hg hc hgw hs hpos hT h y hS h1 h2 h3 hgh q
    · exact docD_f3 g GL GO eL eO c A AL AO cp cL cO w hg hc hgw hs hpos hT h y hS h1 h2 h3 hgh q
    · exact docD_l g GL GO eL eO c A AL AO cp cL cO w hg hc hgw hs hpos hT h y hS h1 h2 h3 hgh q
    · exact docD_s g GL GO eL eO c A AL AO cp cL cO w hg hc hgw hs hpos hT h y hS h1 h2 h3 hgh q
    · exact docD_d g GL GO eL eO c A AL AO cp cL cO w hg hc hgw hs hpos hT h y hS h1 h2 h3 hgh q
end Go.Proofs.YtamlaknfakaanaaGreatDoor

namespace Go.Proofs.YtamlaknfakaanaaGreatDoor
open Go Go.RowKit
set_option linter.unusedVariables false
set_option linter.unusedSimpArgs false
def GB.comp (x : GB) (g : GV) : GC := ⟨x.kind, x.path, x.key, x.i, x.j, x.n, g, x.s⟩
structure QB (w W : World) (ca cb : Array Value) : Prop where
  a : Whole W w.heap.size 25 ca
  b : Whole W (w.heap.size + 1) 35 cb
  below : Below w.heap.size w W
theorem QB.new (w : World) (ca cb : Array Value) : QB w ((w.alloc (.cells ca 25)).alloc (.cells cb 35)) ca cb :=
  ⟨(Whole.new w _ ca).alloc _, by have := Whole.new (w.alloc (.cells ca 25)) 35 cb; rwa [World.size_alloc] at this, ((Below.refl _ _).alloc (Nat.le_refl _) _).alloc (by simp) _⟩
theorem QB.step {w W W' : World} {ca cb : Array Value} (h : QB w W ca cb) (hb : Below W.heap.size W W') : QB w W' ca cb :=
  ⟨h.a.below hb h.a.lt, h.b.below hb h.b.lt, h.below.trans (hb.mono h.below.size)⟩
def CompOut (x : GB) (B : Option Addr) (bap : Nat) (w : World) (e : Ending) (w' : World) : Prop := ∃ (g : GV) (VL VO : Option Addr) (vl vo : Nat), e = .returned (.agg #[.int .u8 x.kind, .slice B x.path.length bap, .string x.key, .int .i64 x.i, .int .i64 x.j, .int .i64 x.n, .int .u8 g.kind, .int .i64 g.num, .string g.str, .slice VL g.items.length vl, .slice VO g.vals.length vo, .string x.s]) ∧ g.weight ≤ 2 * tot x.v + 1 ∧ g.Pos ∧ Cc w' (x.comp g) B VL VO bap vl vo ∧ Below w.heap.size w w'
set_option maxRecDepth 100000 in
set_option maxHeartbeats 16000000 in
theorem comp_any (x : GB) (B : Option Addr) (bap : Nat) (D : Option Addr) (dap : Nat) (w : World) (hp : Wy w B bap x.path) (hT : Toks w.heap.size w D x.v) (hd1 : x.v.length ≤ dap) (hd2 : dap ≤ maxLen) (hl : x.v.length ≤ 1000000) (hr : ∀ t ∈ x.v, 0 ≤ t.k ∧ t.k ≤ 255 ∧ 0 ≤ t.m ∧ t.m ≤ 255) :
    Calls Tryz.prog 9 #[.agg #[.int .u8 x.kind, .slice B x.path.length bap, .string x.key, .int .i64 x.i, .int .i64 x.j, .int .i64 x.n, .string x.s, .slice D x.v.length dap]] w (CompOut x B bap w) := by
  have HRW := Lib.hid (fun W (hb : Below w.heap.size w W) => (Raw_posL w.heap.size D dap x.v W hd1 hd2 hl hb.size (hT.keep hb (Nat.le_refl _)) hr).mono (R' := fun e w' => ∃ (g : GV) (VL VO : Option Addr) (vl vo : Nat), e = .returned (.agg #[.int .u8 g.kind, .int .i64 g.num, .string g.str, .slice VL g.items.length vl, .slice VO g.vals.length vo]) ∧ (LstV (fun k => W.heap.size ≤ k) w' (.slice VL g.items.length vl) g.items ∧ ObjV (fun k => W.heap.size ≤ k) w' (.slice VO g.vals.length vo) g.keys g.vals) ∧ g.weight ≤ 2 * tot x.v + 1 ∧ g.Pos ∧ Below W.heap.size W w') fun e w' ⟨g, v, he, hv, hw, hpos, hb'⟩ => by
    obtain ⟨L, O, rfl, hL, hO⟩ := hv
    obtain ⟨VL, vl, rfl⟩ := lst_form hL
    obtain ⟨VO, vo, rfl⟩ := obj_form hO
    exact ⟨g, VL, VO, vl, vo, he, ⟨hL, hO⟩, hw, hpos, hb'⟩)
  have HP := Lib.hid hp
  have H0 := Lib.hid (QB.new w #[.int .u8 x.kind, .slice B x.path.length bap, .string x.key, .int .i64 x.i, .int .i64 x.j, .int .i64 x.n, .string x.s, .slice D x.v.length dap] #[.int .u8 0, .slice none 0 0, .string ⟨#[]⟩, .int .i64 0, .int .i64 0, .int .i64 0, .int .u8 0, .int .i64 0, .string ⟨#[]⟩, .slice none 0 0, .slice none 0 0, .string ⟨#[]⟩])
  have HS := Lib.hid (fun (W : World) (h : Whole W w.heap.size 25 #[.int .u8 x.kind, .slice B x.path.length bap, .string x.key, .int .i64 x.i, .int .i64 x.j, .int .i64 x.n, .string x.s, .slice D x.v.length dap]) => (show W.cell? ⟨w.heap.size, 0, none⟩ = some (.int .u8 x.kind) ∧ W.cell? ⟨w.heap.size, 1, none⟩ = some (.slice B x.path.length bap) ∧ W.cell? ⟨w.heap.size, 2, none⟩ = some (.string x.key) ∧ W.cell? ⟨w.heap.size, 3, none⟩ = some (.int .i64 x.i) ∧ W.cell? ⟨w.heap.size, 4, none⟩ = some (.int .i64 x.j) ∧ W.cell? ⟨w.heap.size, 5, none⟩ = some (.int .i64 x.n) ∧ W.cell? ⟨w.heap.size, 6, none⟩ = some (.string x.s) ∧ W.cell? ⟨w.heap.size, 7, none⟩ = some (.slice D x.v.length dap) from ⟨(h.cell 0).trans rfl, (h.cell 1).trans rfl, (h.cell 2).trans rfl, (h.cell 3).trans rfl, (h.cell 4).trans rfl, (h.cell 5).trans rfl, (h.cell 6).trans rfl, (h.cell 7).trans rfl⟩))
  clear hp hT hd1 hd2 hl hr
  go_enter Tryz.func9, Tryz.ntmps9
  go_wp2
  have hs0 : ((w.alloc (.cells #[.int .u8 x.kind, .slice B x.path.length bap, .string x.key, .int .i64 x.i, .int .i64 x.j, .int .i64 x.n, .string x.s, .slice D x.v.length dap] 25)).alloc (.cells #[.int .u8 0, .slice none 0 0, .string ⟨#[]⟩, .int .i64 0, .int .i64 0, .int .i64 0, .int .u8 0, .int .i64 0, .string ⟨#[]⟩, .slice none 0 0, .slice none 0 0, .string ⟨#[]⟩] 35)).heap.size = w.heap.size + 1 + 1 := by simp
  generalize ((w.alloc (.cells #[.int .u8 x.kind, .slice B x.path.length bap, .string x.key, .int .i64 x.i, .int .i64 x.j, .int .i64 x.n, .string x.s, .slice D x.v.length dap] 25)).alloc (.cells #[.int .u8 0, .slice none 0 0, .string ⟨#[]⟩, .int .i64 0, .int .i64 0, .int .i64 0, .int .u8 0, .int .i64 0, .string ⟨#[]⟩, .slice none 0 0, .slice none 0 0, .string ⟨#[]⟩] 35)) = W0 at *
  have HZ0 := Lib.hid hs0
  have HA0 := Lib.hid (show Whole W0.drew w.heap.size 25 #[.int .u8 x.kind, .slice B x.path.length bap, .string x.key, .int .i64 x.i, .int .i64 x.j, .int .i64 x.n, .string x.s, .slice D x.v.length dap] from H0.out.a.of_eq rfl)
  clear hs0
  go_region_held3 (fun W => W.cell? ⟨w.heap.size, 0, none⟩ = some (.int .u8 x.kind) ∧ W.cell? ⟨w.heap.size, 1, none⟩ = some (.slice B x.path.length bap) ∧ W.cell? ⟨w.heap.size, 2, none⟩ = some (.string x.key) ∧ W.cell? ⟨w.heap.size, 3, none⟩ = some (.int .i64 x.i) ∧ W.cell? ⟨w.heap.size, 4, none⟩ = some (.int .i64 x.j) ∧ W.cell? ⟨w.heap.size, 5, none⟩ = some (.int .i64 x.n) ∧ W.cell? ⟨w.heap.size, 6, none⟩ = some (.string x.s) ∧ W.cell? ⟨w.heap.size, 7, none⟩ = some (.slice D x.v.length dap))
    (first
      | (with_reducible exact HS.out W0.drew HA0.out)
      | (with_reducible exact HS.out W0 H0.out.a)
      | (with_reducible exact HS.out w1 H1.out.1.a)
      | exact HS.out _ (by repeat (first | (with_reducible exact H1.out.1.a) | refine Whole.far ?_ (by simp) _)))
    (first
      | (go_at_call 20; refine (HRW.out W0.drew H0.out.below.drew).mono ?_; rintro e w1 ⟨g, VL, VO, vl, vo, rfl, hv, hw, hpos, hb⟩; have H1 := Lib.hid (And.intro (H0.out.step ((Below.refl W0.heap.size W0).drew.trans hb)) (And.intro (And.intro hv (And.intro hw hpos)) (And.intro (show w.heap.size + 1 + 1 ≤ W0.drew.heap.size from Nat.le_of_eq HZ0.out.symm) (H0.out.below.drew.trans (hb.mono H0.out.below.size))))); obtain ⟨b0, b1, b2, b3, b4, b5, b6, b7, b8, b9, b10, b11, y0, y1, y2, y3, y4, y5, y6, y7, y8, y9, y10, y11⟩ := H1.out.1.b.tw; clear hv hw hpos hb))
  all_goals
    go_wp2
    have hXb := put12 H1.out.1.b (.int .u8 x.kind) (.slice B x.path.length bap) (.string x.key) (.int .i64 x.i) (.int .i64 x.j) (.int .i64 x.n) (.int .u8 g.kind) (.int .i64 g.num) (.string g.str) (.slice VL g.items.length vl) (.slice VO g.vals.length vo) (.string x.s)
    have hk := (((((((((((((Kp.refl (w.heap.size + 1 + 1) w1).set (p := ⟨w.heap.size + 1, 0, none⟩) (by simp) (.int .u8 x.kind)).set (p := ⟨w.heap.size + 1, 1, none⟩) (by simp) (.slice B x.path.length bap)).set (p := ⟨w.heap.size + 1, 2, none⟩) (by simp) (.string x.key)).set (p := ⟨w.heap.size + 1, 3, none⟩) (by simp) (.int .i64 x.i)).set (p := ⟨w.heap.size + 1, 4, none⟩) (by simp) (.int .i64 x.j)).set (p := ⟨w.heap.size + 1, 5, none⟩) (by simp) (.int .i64 x.n)).set (p := ⟨w.heap.size + 1, 6, none⟩) (by simp) (.int .u8 g.kind)).set (p := ⟨w.heap.size + 1, 7, none⟩) (by simp) (.int .i64 g.num)).set (p := ⟨w.heap.size + 1, 8, none⟩) (by simp) (.string g.str)).set (p := ⟨w.heap.size + 1, 9, none⟩) (by simp) (.slice VL g.items.length vl)).set (p := ⟨w.heap.size + 1, 10, none⟩) (by simp) (.slice VO g.vals.length vo)).set (p := ⟨w.heap.size + 1, 11, none⟩) (by simp) (.string x.s))
    have hbel := ((((((((((((H1.out.2.2.2.setCell (p := ⟨w.heap.size + 1, 0, none⟩) (Nat.le_succ _) (.int .u8 x.kind)).setCell (p := ⟨w.heap.size + 1, 1, none⟩) (Nat.le_succ _) (.slice B x.path.length bap)).setCell (p := ⟨w.heap.size + 1, 2, none⟩) (Nat.le_succ _) (.string x.key)).setCell (p := ⟨w.heap.size + 1, 3, none⟩) (Nat.le_succ _) (.int .i64 x.i)).setCell (p := ⟨w.heap.size + 1, 4, none⟩) (Nat.le_succ _) (.int .i64 x.j)).setCell (p := ⟨w.heap.size + 1, 5, none⟩) (Nat.le_succ _) (.int .i64 x.n)).setCell (p := ⟨w.heap.size + 1, 6, none⟩) (Nat.le_succ _) (.int .u8 g.kind)).setCell (p := ⟨w.heap.size + 1, 7, none⟩) (Nat.le_succ _) (.int .i64 g.num)).setCell (p := ⟨w.heap.size + 1, 8, none⟩) (Nat.le_succ _) (.string g.str)).setCell (p := ⟨w.heap.size + 1, 9, none⟩) (Nat.le_succ _) (.slice VL g.items.length vl)).setCell (p := ⟨w.heap.size + 1, 10, none⟩) (Nat.le_succ _) (.slice VO g.vals.length vo)).setCell (p := ⟨w.heap.size + 1, 11, none⟩) (Nat.le_succ _) (.string x.s))
    generalize ((((((((((((w1.setCell ⟨w.heap.size + 1, 0, none⟩ (.int .u8 x.kind)).setCell ⟨w.heap.size + 1, 1, none⟩ (.slice B x.path.length bap)).setCell ⟨w.heap.size + 1, 2, none⟩ (.string x.key)).setCell ⟨w.heap.size + 1, 3, none⟩ (.int .i64 x.i)).setCell ⟨w.heap.size + 1, 4, none⟩ (.int .i64 x.j)).setCell ⟨w.heap.size + 1, 5, none⟩ (.int .i64 x.n)).setCell ⟨w.heap.size + 1, 6, none⟩ (.int .u8 g.kind)).setCell ⟨w.heap.size + 1, 7, none⟩ (.int .i64 g.num)).setCell ⟨w.heap.size + 1, 8, none⟩ (.string g.str)).setCell ⟨w.heap.size + 1, 9, none⟩ (.slice VL g.items.length vl)).setCell ⟨w.heap.size + 1, 10, none⟩ (.slice VO g.vals.length vo)).setCell ⟨w.heap.size + 1, 11, none⟩ (.string x.s)) = X at *
    obtain ⟨d0, d1, d2, d3, d4, d5, d6, d7, d8, d9, d10, d11, _⟩ := hXb.tw
    have hsz := H1.out.2.2.1
    have HX := Lib.hid (And.intro hk hbel)
    clear hXb hk hbel
    refine bodyPost_ret (v := .agg #[.int .u8 x.kind, .slice B x.path.length bap, .string x.key, .int .i64 x.i, .int .i64 x.j, .int .i64 x.n, .int .u8 g.kind, .int .i64 g.num, .string g.str, .slice VL g.items.length vl, .slice VO g.vals.length vo, .string x.s]) (by simp [results, Tryz.results9, go_sem, d0, d1, d2, d3, d4, d5, d6, d7, d8, d9, d10, d11]) rfl ?_
    exact ⟨g, VL, VO, vl, vo, rfl, H1.out.2.1.2.1, H1.out.2.1.2.2, ⟨HP.out.later HX.out.2, ⟨H1.out.2.1.1.1.keep (fun k hk1 hl => HX.out.1.2 k (by omega) hl) (fun _ _ _ => trivial), H1.out.2.1.1.2.keep (fun k hk1 hl => HX.out.1.2 k (by omega) hl) (fun _ _ _ => trivial)⟩⟩, HX.out.2⟩
end Go.Proofs.YtamlaknfakaanaaGreatDoor

