/- ValBuilt, the Go function: it comes out true. -/
import Derived.Test.YtjknicljbmakeaaDoorLawF
import Derived.Test.YtjknicljbmakeaaDoorLawS
import Derived.Test.YtjknicljbmakeaaDoorLawO
import Derived.Test.YtjknicljbmakeaaDoorBuild
import Derived.Deep.RegionHeld3
import Derived.Deep.DeepCutAuto
namespace Go.Proofs.YtjknicljbmakeaaDoor
open Go Go.RowKit Go.Shelf Go.Sort

theorem five_of {W : World} {b : Nat} {a0 a1 a2 a3 a4 : Value} (h : Five W b a0 a1 a2 a3 a4) : W.cell? ⟨b, 0, none⟩ = some a0 ∧ W.cell? ⟨b, 1, none⟩ = some a1 ∧ W.cell? ⟨b, 2, none⟩ = some a2 ∧ W.cell? ⟨b, 3, none⟩ = some a3 ∧ W.cell? ⟨b, 4, none⟩ = some a4 := ⟨h.c0, h.c1, h.c2, h.c3, h.c4⟩
/-- An object of one field lies at b. -/
def ObjAt (W5 : World) (cells : List Value) (v : Value) (wc : World) : Prop := ∃ b br, v = .pointer (some ⟨b, 0, none⟩) ∧ Below W5.heap.size W5 wc ∧ W5.heap.size ≤ b ∧ Whole wc br 36 cells.toArray ∧
  Whole wc b 28 #[.int .u8 5, .int .i64 0, .string ⟨#[]⟩, .slice none 0 0, .slice (some ⟨br, 0, none⟩) 1 1]
theorem objAt_a {W5 W1 : World} {cells : List Value} (h : Below W5.heap.size W5 W1) : ObjAt W5 cells (.pointer (some ⟨W1.heap.size + 1, 0, none⟩)) ((W1.alloc (.cells cells.toArray 36)).alloc (.cells #[.int .u8 5, .int .i64 0, .string ⟨#[]⟩, .slice none 0 0, .slice (some ⟨W1.heap.size, 0, none⟩) 1 1] 28)) := by
  have h2 := Whole.new (W1.alloc (.cells cells.toArray 36)) 28 #[.int .u8 5, .int .i64 0, .string ⟨#[]⟩, .slice none 0 0, .slice (some ⟨W1.heap.size, 0, none⟩) 1 1]
  rw [World.size_alloc] at h2
  exact ⟨_, _, rfl, (h.alloc h.size _).alloc (by have := h.size; simp; omega) _, by have := h.size; omega, (Whole.new W1 _ _).alloc _, h2⟩
theorem objAt_b {W5 W1 : World} {cells : List Value} (h : Below W5.heap.size W5 W1) : ObjAt W5 cells (.pointer (some ⟨W1.heap.size, 0, none⟩)) ((W1.alloc (.cells #[.int .u8 5, .int .i64 0, .string ⟨#[]⟩, .slice none 0 0, .slice (some ⟨W1.heap.size + 1, 0, none⟩) 1 1] 28)).alloc (.cells cells.toArray 36)) := by
  have h2 := Whole.new (W1.alloc (.cells #[.int .u8 5, .int .i64 0, .string ⟨#[]⟩, .slice none 0 0, .slice (some ⟨W1.heap.size + 1, 0, none⟩) 1 1] 28)) 36 cells.toArray
  rw [World.size_alloc] at h2
  exact ⟨_, _, rfl, (h.alloc h.size _).alloc (by have := h.size; simp; omega) _, h.size, h2, (Whole.new W1 _ _).alloc _⟩

theorem objAt_c {W5 W6 : World} {cells : List Value} (h : Below W5.heap.size W5 W6) (hz : Whole W6 W5.heap.size 28 #[.int .u8 0, .int .i64 0, .string ⟨#[]⟩, .slice none 0 0, .slice none 0 0]) :
    ObjAt W5 cells (.pointer (some ⟨W5.heap.size, 0, none⟩)) (put5 (W6.alloc (.cells cells.toArray 36)) W5.heap.size (.int .u8 5) (.int .i64 0) (.string ⟨#[]⟩) (.slice none 0 0) (.slice (some ⟨W6.heap.size, 0, none⟩) 1 1)) := by
  refine ⟨_, W6.heap.size, rfl, put5_below (h.alloc h.size _) (Nat.le_refl _) _ _ _ _ _, Nat.le_refl _, (Whole.new W6 _ _).of_eq (put5_block _ _ _ _ _ _ _ _ (by have := hz.lt; omega)), ?_⟩
  exact (((((hz.alloc _).put 0 _).put 1 _).put 2 _).put 3 _).put 4 _
theorem lst2_val {W : World} {b : Nat} {g h : GV} {L O L' O' : Value} (hw : Whole W b 28 (chunk g L O ++ chunk h L' O').toArray) (hA : LstV (fun _ => True) W L g.items ∧ ObjV (fun _ => True) W O g.keys g.vals) (hB : LstV (fun _ => True) W L' h.items ∧ ObjV (fun _ => True) W O' h.keys h.vals) :
    (GV.mk 4 0 ⟨#[]⟩ [g, h] [] []).val (fun _ => True) W (.agg #[.int .u8 4, .int .i64 0, .string ⟨#[]⟩, .slice (some ⟨b, 0, none⟩) 2 2, .slice none 0 0]) := by
  have hc : ∀ (j : Nat) (u : Value), (chunk g L O ++ chunk h L' O')[j]? = some u → W.cell? ⟨b, 0 + j, none⟩ = some u := fun j u hu => by rw [Nat.zero_add, hw.cell]; simpa using hu
  exact ⟨_, _, rfl, .inr ⟨b, 0, 2, rfl, Nat.le_refl _, by decide, hw.kind trivial, RowL.els (xs := chunk g L O ++ chunk h L' O') ⟨_, _, _, rfl, hA.1, hA.2, _, _, _, by simp, hB.1, hB.2, rfl⟩ hc⟩, rfl, .inl ⟨rfl, rfl⟩⟩
theorem obj1_val {W : World} {b : Nat} {g : GV} {k : ByteArray} {L O : Value} (hw : Whole W b 36 (.string k :: chunk g L O).toArray) (hA : LstV (fun _ => True) W L g.items ∧ ObjV (fun _ => True) W O g.keys g.vals) :
    (GV.mk 5 0 ⟨#[]⟩ [] [k] [g]).val (fun _ => True) W (.agg #[.int .u8 5, .int .i64 0, .string ⟨#[]⟩, .slice none 0 0, .slice (some ⟨b, 0, none⟩) 1 1]) := by
  have hc : ∀ (j : Nat) (u : Value), (.string k :: chunk g L O)[j]? = some u → W.cell? ⟨b, 0 + j, none⟩ = some u := fun j u hu => by rw [Nat.zero_add, hw.cell]; simpa using hu
  have h1 := RowO.els (ok := fun _ => True) (W := W) (b := b) (ks := [k]) (ov := [g]) (xs := .string k :: chunk g L O) (off := 0) ⟨_, _, _, by simp, hA.1, hA.2, rfl⟩ hc
  exact ⟨_, _, rfl, .inl ⟨rfl, rfl⟩, rfl, .inr ⟨b, 0, 1, rfl, Nat.le_refl _, by decide, hw.kind trivial, h1.1, h1.2⟩⟩
theorem lst2_good {g h : GV} (hg : g.Sound) (hh : h.Sound) : (GV.mk 4 0 ⟨#[]⟩ [g, h] [] []).Sound := by
  simp only [GV.Sound, GV.Sounds, and_true]
  exact ⟨⟨by simp, by simp, .inr ⟨by simp, by simp⟩, .inl rfl, .inr ⟨by simp, rfl⟩⟩, hg, hh⟩
theorem obj1_good {g : GV} {k : ByteArray} (hg : g.Sound) (hk : valid k = true) : (GV.mk 5 0 ⟨#[]⟩ [] [k] [g]).Sound := by
  simp only [GV.Sound, GV.Sounds, true_and, and_true]
  refine ⟨⟨by simp, by simp, .inr ⟨by simp, by simp⟩, .inr rfl, .inl ⟨rfl, fun i x hi hx => ?_⟩⟩, hg⟩
  have hi0 : i = 0 := by simpa using hi
  subst hi0
  simp at hx
  subst hx
  exact ⟨hk, fun j p e => by omega⟩
/-- A call that makes memory at most, at a world that was drawn and grown. -/
abbrev QW (W : World) (d : Nat) (os : Array Obj) (f : FuncId) (args : Array Value) (v : Value) : Prop :=
  Calls Tryd.prog f args (grow (redrawn W d) os) fun e w'' => e = .returned v ∧ ∃ p : Regrown, w'' = grow (redrawn W p.d) p.os
theorem true_of {P : Prop} {W : World} {f : FuncId} {args : Array Value} (hp : P) (h : Calls Tryd.prog f args W (BoolPost P W)) : Calls Tryd.prog f args W fun e w' => e = .returned (.bool true) ∧ Below W.heap.size W w' :=
  h.mono fun e w' ⟨b, he, hb, hw⟩ => ⟨by rw [hb.2 hp] at he; exact he, hw⟩

set_option maxRecDepth 100000 in
set_option maxHeartbeats 16000000 in
theorem built_true (hi : Nat) (A : Option Addr) (cap : Nat) (ts : List GTok) (A' : Option Addr) (cap' : Nat) (ts' : List GTok) (key : ByteArray) (w : World) (hcap : ts.length ≤ cap) (hm : cap ≤ maxLen) (hcap' : ts'.length ≤ cap') (hm' : cap' ≤ maxLen) (hhi : hi ≤ w.heap.size) (hT : Toks hi w A ts) (hT' : Toks hi w A' ts')
    (hr : ∀ t ∈ ts, 0 ≤ t.k ∧ t.k ≤ 255 ∧ 0 ≤ t.m ∧ t.m ≤ 255) (hss : ∀ t ∈ ts, t.s.size ≤ 140737488351232) (hr' : ∀ t ∈ ts', 0 ≤ t.k ∧ t.k ≤ 255 ∧ 0 ≤ t.m ∧ t.m ≤ 255) (hss' : ∀ t ∈ ts', t.s.size ≤ 140737488351232) (hk : key.size ≤ 281474976710656) (hU : Tabs w) :
    Calls Tryd.prog 7 #[.slice A ts.length cap, .slice A' ts'.length cap', .string key] w (TrueBelow w) := by
  have hheavy := heavy_any hi A cap ts w hT (by omega) hss
  have hheavy' := heavy_any hi A' cap' ts' w hT' (by omega) hss'
  have hbuild : ts.length ≤ 200 → ∀ W, Below w.heap.size w W → Calls Tryd.prog 31 #[.slice A ts.length cap] W (BuildOut W) := fun h W hb => Build_any hi A cap ts W hcap hm h (by have := hb.size; omega) (hT.keep (hb.mono hhi) (Nat.le_refl _)) hr hss
  have hbuild' : ts'.length ≤ 200 → ∀ W, Below w.heap.size w W → Calls Tryd.prog 31 #[.slice A' ts'.length cap'] W (BuildOut W) := fun h W hb => Build_any hi A' cap' ts' W hcap' hm' h (by have := hb.size; omega) (hT'.keep (hb.mono hhi) (Nat.le_refl _)) hr' hss'
  have HBUILD := Lib.hid (And.intro hbuild hbuild')
  have HHEAVY := Lib.hid (And.intro hheavy hheavy')
  have HU := Lib.hid hU
  clear hbuild hheavy hbuild' hheavy' hU hT hr hss hT' hr' hss'
  generalize hn : ts.length = n at *
  generalize hn' : ts'.length = n' at *
  have HN := Lib.hid (And.intro hn hn')
  clear hn hn'
  go_enter Tryd.func7, Tryd.ntmps7
  go_wp2_with (first | (go_at_call 16; refine HB0.out.mono ?_; rintro e w' ⟨b', rfl, rfl, hb'⟩; have HB' := Lib.hid hb'; clear hb') | (go_at_call 16; refine HHEAVY.out.1.mono ?_; rintro e w' ⟨b, rfl, rfl, hb⟩; have HB := Lib.hid hb; clear hb; have HB0 := Lib.hid HHEAVY.out.2) | (go_at_call 17; refine (known_true _ HU.out).mono ?_; rintro e W1 ⟨rfl, hb1⟩; have HB1 := Lib.hid hb1; clear hb1) | (go_at_call 31; refine (HBUILD.out.2 (by have := (HB'.out (by simpa using ‹¬ b' = true›)).1; have := HN.out; omega) _ (HB2.out.alloc (by have := HB2.out.size; omega) _)).mono ?_; rintro e W3 ⟨h, v, rfl, ⟨L', O', rfl, hL', hO'⟩, hgd', hw', hb3⟩; obtain ⟨BL', dL', rfl⟩ := lst_form hL'; obtain ⟨BO', dO', rfl⟩ := obj_form hO'; have HV' := Lib.hid (And.intro hL' hO'); have HB3 := Lib.hid hb3; have HW' := Lib.hid (And.intro hgd' hw'); obtain ⟨q0, q1, q2, q3, q4, _⟩ := (box_five hb3).five; replace q0 := fun o => cell_alloc o q0; replace q1 := fun o => cell_alloc o q1; replace q2 := fun o => cell_alloc o q2; replace q3 := fun o => cell_alloc o q3; replace q4 := fun o => cell_alloc o q4; clear hL' hO' hw' hb3 hgd') | (go_at_call 31; refine (HBUILD.out.1 (by have := (HB.out (by simpa using ‹¬ b = true›)).1; have := HN.out; omega) _ HB1.out).mono ?_; rintro e W2 ⟨g, v, rfl, ⟨L, O, rfl, hL, hO⟩, hgd, hw, hb2⟩; obtain ⟨BL, dL, rfl⟩ := lst_form hL; obtain ⟨BO, dO, rfl⟩ := obj_form hO; have HV := Lib.hid (And.intro hL hO); have HB2 := Lib.hid (HB1.out.trans (hb2.mono (HB1.out.size))); have HW := Lib.hid (And.intro hgd hw); clear hL hO hw hb2 hgd))
  · refine bodyPost_ret (v := .bool true) (by simp [results, Tryd.results7, go_sem]) rfl ?_
    exact ⟨rfl, HB1.out⟩
  · refine bodyPost_ret (v := .bool true) (by simp [results, Tryd.results7, go_sem]) rfl ?_
    exact ⟨rfl, HB1.out⟩
  rotate_left
  · refine bodyPost_ret (v := .bool true) (by simp [results, Tryd.results7, go_sem]) rfl ?_
    exact ⟨rfl, HB1.out⟩
  have s2 : w.heap.size ≤ W2.heap.size := HB2.out.size
  have s3 : W2.heap.size + 1 ≤ W3.heap.size := by have := HB3.out.size; simpa using this
  have t5 : ∃ W5, W5 = ((W3.alloc (.cells #[.int .u8 h.kind, .int .i64 h.num, .string h.str, .slice BL' h.items.length dL', .slice BO' h.vals.length dO'] 28)).alloc (.cells #[.int .u8 g.kind, .int .i64 g.num, .string g.str, .slice BL g.items.length dL, .slice BO g.vals.length dO, .int .u8 h.kind, .int .i64 h.num, .string h.str, .slice BL' h.items.length dL', .slice BO' h.vals.length dO'] 28)).alloc (.cells #[.int .u8 4, .int .i64 0, .string ⟨#[]⟩, .slice (some ⟨W3.heap.size + 1, 0, none⟩) 2 2, .slice none 0 0] 28) := ⟨_, rfl⟩
  obtain ⟨W5, hW5⟩ := t5
  have d35 : Below W3.heap.size W3 W5 := by rw [hW5]; exact (((Below.refl _ _).alloc (Nat.le_refl _) _).alloc (by simp) _).alloc (by simp; omega) _
  have e7 : Whole W5 W2.heap.size 28 #[.int .u8 g.kind, .int .i64 g.num, .string g.str, .slice BL g.items.length dL, .slice BO g.vals.length dO] := (box_five HB3.out).below d35 (by omega)
  have e8 : Whole W5 W3.heap.size 28 #[.int .u8 h.kind, .int .i64 h.num, .string h.str, .slice BL' h.items.length dL', .slice BO' h.vals.length dO'] := by rw [hW5]; exact ((Whole.new W3 _ _).alloc _).alloc _
  have er : Whole W5 (W3.heap.size + 1) 28 #[.int .u8 g.kind, .int .i64 g.num, .string g.str, .slice BL g.items.length dL, .slice BO g.vals.length dO, .int .u8 h.kind, .int .i64 h.num, .string h.str, .slice BL' h.items.length dL', .slice BO' h.vals.length dO'] := by
    rw [hW5]
    have := (Whole.new (W3.alloc (.cells #[.int .u8 h.kind, .int .i64 h.num, .string h.str, .slice BL' h.items.length dL', .slice BO' h.vals.length dO'] 28)) 28 #[.int .u8 g.kind, .int .i64 g.num, .string g.str, .slice BL g.items.length dL, .slice BO g.vals.length dO, .int .u8 h.kind, .int .i64 h.num, .string h.str, .slice BL' h.items.length dL', .slice BO' h.vals.length dO']).alloc (.cells #[.int .u8 4, .int .i64 0, .string ⟨#[]⟩, .slice (some ⟨W3.heap.size + 1, 0, none⟩) 2 2, .slice none 0 0] 28)
    rw [World.size_alloc] at this
    exact this
  have e9 : Whole W5 (W3.heap.size + 1 + 1) 28 #[.int .u8 4, .int .i64 0, .string ⟨#[]⟩, .slice (some ⟨W3.heap.size + 1, 0, none⟩) 2 2, .slice none 0 0] := by
    rw [hW5]
    have := Whole.new ((W3.alloc (.cells #[.int .u8 h.kind, .int .i64 h.num, .string h.str, .slice BL' h.items.length dL', .slice BO' h.vals.length dO'] 28)).alloc (.cells #[.int .u8 g.kind, .int .i64 g.num, .string g.str, .slice BL g.items.length dL, .slice BO g.vals.length dO, .int .u8 h.kind, .int .i64 h.num, .string h.str, .slice BL' h.items.length dL', .slice BO' h.vals.length dO'] 28)) 28 #[.int .u8 4, .int .i64 0, .string ⟨#[]⟩, .slice (some ⟨W3.heap.size + 1, 0, none⟩) 2 2, .slice none 0 0]
    rw [World.size_alloc, World.size_alloc] at this
    exact this
  have dW : Below w.heap.size w W5 := ((HB2.out.alloc s2 _).trans (HB3.out.mono (by simp; omega))).trans (d35.mono (by omega))
  have vA : LstV (fun _ => True) W5 (.slice BL g.items.length dL) g.items ∧ ObjV (fun _ => True) W5 (.slice BO g.vals.length dO) g.keys g.vals := by
    have k1 : From (fun k => W1.heap.size ≤ k ∧ k < W2.heap.size) W2 W5 := fun k hk _ => ((d35.block k (by omega)).trans (HB3.out.block k (by simp; omega))).trans (Below.heap_alloc _ _ _ hk.2)
    exact ⟨(HV.out.1.keep (From.refl _ _) (fun k hk hlt => ⟨hk, hlt⟩)).keep k1 (fun _ _ _ => trivial), (HV.out.2.keep (From.refl _ _) (fun k hk hlt => ⟨hk, hlt⟩)).keep k1 (fun _ _ _ => trivial)⟩
  have vB : LstV (fun _ => True) W5 (.slice BL' h.items.length dL') h.items ∧ ObjV (fun _ => True) W5 (.slice BO' h.vals.length dO') h.keys h.vals := ⟨HV'.out.1.keep (From.of_below d35) (fun _ _ _ => trivial), HV'.out.2.keep (From.of_below d35) (fun _ _ _ => trivial)⟩
  rw [← hW5]
  have s5 : W3.heap.size + 3 ≤ W5.heap.size := by rw [hW5]; simp
  have HE := Lib.hid (And.intro e7 (And.intro e8 (And.intro er e9)))
  have HVV := Lib.hid (And.intro vA vB)
  have HDW := Lib.hid dW
  obtain ⟨x0, x1, x2, x3, x4, _⟩ := e7.five
  have HKEY := Lib.hid (fun W => plain_any key W (by omega))
  clear e7 e8 er e9 vA vB dW d35 hW5 q0 q1 q2 q3 q4
  have HS5 := Lib.hid (fun (W : World) (hb : Below W5.heap.size W5 W) => (HE.out.1.below hb HE.out.1.lt).five)
  go_cut [10] (ObjAt W5 [.string (plainB key), .int .u8 g.kind, .int .i64 g.num, .string g.str, .slice BL g.items.length dL, .slice BO g.vals.length dO])
  case first =>
    go_region_held3 (fun W => W.cell? ⟨W2.heap.size, 0, none⟩ = some (.int .u8 g.kind) ∧ W.cell? ⟨W2.heap.size, 1, none⟩ = some (.int .i64 g.num) ∧ W.cell? ⟨W2.heap.size, 2, none⟩ = some (.string g.str) ∧ W.cell? ⟨W2.heap.size, 3, none⟩ = some (.slice BL g.items.length dL) ∧ W.cell? ⟨W2.heap.size, 4, none⟩ = some (.slice BO g.vals.length dO))
      (exact five_of (HS5.out _ (by repeat (first | exact HBC.out | exact Below.refl _ _ | refine Below.drew ?_ | refine Below.alloc ?_ (by first | (simp; done) | (have := HBC.out.size; simp; omega) | (simp; omega)) _ | refine Below.setCell ?_ (by first | (simp; done) | (have := HBC.out.size; simp; omega) | (simp; omega)) _))))
      (first | (go_at_call 32; refine (HKEY.out _).mono ?_; rintro e W6 ⟨rfl, hb6⟩; have HBC : Hid (Below W5.heap.size W5 W6) := (Lib.hid (by first | exact (Below.refl _ _).drew.trans hb6 | exact ((Below.refl _ W5).drew.alloc (Nat.le_refl _) _).trans (hb6.mono (by simp)))); (try (have HZ6 : Hid (Whole W6 W5.heap.size 28 #[.int .u8 0, .int .i64 0, .string ⟨#[]⟩, .slice none 0 0, .slice none 0 0]) := Lib.hid ((Whole.new W5.drew 28 #[.int .u8 0, .int .i64 0, .string ⟨#[]⟩, .slice none 0 0, .slice none 0 0]).below hb6 (by simp)); have zz : ∀ o, Five (W6.alloc o) W5.heap.size (.int .u8 0) (.int .i64 0) (.string ⟨#[]⟩) (.slice none 0 0) (.slice none 0 0) := fun o => (((Whole.new W5.drew 28 #[.int .u8 0, .int .i64 0, .string ⟨#[]⟩, .slice none 0 0, .slice none 0 0]).below hb6 (by simp)).alloc o).five; have z0 := fun o => (zz o).c0; have z1 := fun o => (zz o).c1; have z2 := fun o => (zz o).c2; have z3 := fun o => (zz o).c3; have z4 := fun o => (zz o).c4; have y0 := fun o => (zz o).f0; have y1 := fun o => (zz o).f1; have y2 := fun o => (zz o).f2; have y3 := fun o => (zz o).f3; have y4 := fun o => (zz o).f4; clear zz)); clear hb6))
    all_goals
      go_wp2_with fail
      go_meet
      first | exact objAt_a HBC.out | exact objAt_b HBC.out | exact objAt_c HBC.out HZ6.out
  case rest =>
    obtain ⟨b10, br, rfl, hB, hb10, hwr, hwo⟩ := hcut
    have hq : ∀ W, Below wc.heap.size wc W → (Five W W2.heap.size (.int .u8 g.kind) (.int .i64 g.num) (.string g.str) (.slice BL g.items.length dL) (.slice BO g.vals.length dO) ∧ Five W W3.heap.size (.int .u8 h.kind) (.int .i64 h.num) (.string h.str) (.slice BL' h.items.length dL') (.slice BO' h.vals.length dO') ∧ Five W (W3.heap.size + 1 + 1) (.int .u8 4) (.int .i64 0) (.string ⟨#[]⟩) (.slice (some ⟨W3.heap.size + 1, 0, none⟩) 2 2) (.slice none 0 0) ∧ Five W b10 (.int .u8 5) (.int .i64 0) (.string ⟨#[]⟩) (.slice none 0 0) (.slice (some ⟨br, 0, none⟩) 1 1)) ∧
        g.val (fun _ => True) W (.agg #[.int .u8 g.kind, .int .i64 g.num, .string g.str, .slice BL g.items.length dL, .slice BO g.vals.length dO]) ∧ h.val (fun _ => True) W (.agg #[.int .u8 h.kind, .int .i64 h.num, .string h.str, .slice BL' h.items.length dL', .slice BO' h.vals.length dO']) ∧ (GV.mk 4 0 ⟨#[]⟩ [g, h] [] []).val (fun _ => True) W (.agg #[.int .u8 4, .int .i64 0, .string ⟨#[]⟩, .slice (some ⟨W3.heap.size + 1, 0, none⟩) 2 2, .slice none 0 0]) ∧ (GV.mk 5 0 ⟨#[]⟩ [] [plainB key] [g]).val (fun _ => True) W (.agg #[.int .u8 5, .int .i64 0, .string ⟨#[]⟩, .slice none 0 0, .slice (some ⟨br, 0, none⟩) 1 1]) ∧ Tabs W := fun W hW => by
      have hb : Below W5.heap.size W5 W := hB.trans (hW.mono hB.size)
      have vA : LstV (fun _ => True) W (.slice BL g.items.length dL) g.items ∧ ObjV (fun _ => True) W (.slice BO g.vals.length dO) g.keys g.vals := ⟨HVV.out.1.1.keep (From.of_below hb) (fun _ _ _ => trivial), HVV.out.1.2.keep (From.of_below hb) (fun _ _ _ => trivial)⟩
      have vB : LstV (fun _ => True) W (.slice BL' h.items.length dL') h.items ∧ ObjV (fun _ => True) W (.slice BO' h.vals.length dO') h.keys h.vals := ⟨HVV.out.2.1.keep (From.of_below hb) (fun _ _ _ => trivial), HVV.out.2.2.keep (From.of_below hb) (fun _ _ _ => trivial)⟩
      exact ⟨⟨(HE.out.1.below hb HE.out.1.lt).five, (HE.out.2.1.below hb HE.out.2.1.lt).five, (HE.out.2.2.2.below hb HE.out.2.2.2.lt).five, (hwo.below hW hwo.lt).five⟩, ⟨_, _, rfl, vA.1, vA.2⟩, ⟨_, _, rfl, vB.1, vB.2⟩, lst2_val (HE.out.2.2.1.below hb HE.out.2.2.1.lt) vA vB, obj1_val (hwr.below hW hwr.lt) vA,
        (HU.out.below HDW.out (Nat.le_refl _)).below hb (by have := HDW.out.size; omega)⟩
    have hgw : g.weight ≤ 6000 := HW.out.2
    have hhw : h.weight ≤ 6000 := HW'.out.2
    have hkz : (plainB key).size ≤ 40 := plain_size key
    have hlw : (GV.mk 4 0 ⟨#[]⟩ [g, h] [] []).weight = 1 + g.weight + h.weight := by
      have e0 : (⟨#[]⟩ : ByteArray).size = 0 := rfl
      simp only [GV.weight, GV.weights, List.map_nil, List.sum_nil]; omega
    have how : (GV.mk 5 0 ⟨#[]⟩ [] [plainB key] [g]).weight = 1 + (plainB key).size + g.weight := by
      have e0 : (⟨#[]⟩ : ByteArray).size = 0 := rfl
      simp only [GV.weight, GV.weights, List.map_cons, List.map_nil, List.sum_cons, List.sum_nil]; omega
    have hld : (GV.mk 4 0 ⟨#[]⟩ [g, h] [] []).deep = 1 + max g.deep h.deep := by simp only [GV.deep, GV.deeps]; omega
    have hod : (GV.mk 5 0 ⟨#[]⟩ [] [plainB key] [g]).deep = 1 + g.deep := by simp only [GV.deep, GV.deeps]; omega
    have hgd : g.deep ≤ 6 := by have := HW.out.1.2; omega
    have hhd : h.deep ≤ 6 := by have := HW'.out.1.2; omega
    have hsnd : ∀ W, Below wc.heap.size wc W → Calls Tryd.prog 20 #[.agg #[.int .u8 g.kind, .int .i64 g.num, .string g.str, .slice BL g.items.length dL, .slice BO g.vals.length dO]] W (fun e w' => e = .returned (.bool true) ∧ Below wc.heap.size wc w') ∧ Calls Tryd.prog 20 #[.agg #[.int .u8 h.kind, .int .i64 h.num, .string h.str, .slice BL' h.items.length dL', .slice BO' h.vals.length dO']] W (fun e w' => e = .returned (.bool true) ∧ Below wc.heap.size wc w') ∧
        Calls Tryd.prog 20 #[.agg #[.int .u8 4, .int .i64 0, .string ⟨#[]⟩, .slice (some ⟨W3.heap.size + 1, 0, none⟩) 2 2, .slice none 0 0]] W (fun e w' => e = .returned (.bool true) ∧ Below wc.heap.size wc w') ∧ Calls Tryd.prog 20 #[.agg #[.int .u8 5, .int .i64 0, .string ⟨#[]⟩, .slice none 0 0, .slice (some ⟨br, 0, none⟩) 1 1]] W (fun e w' => e = .returned (.bool true) ∧ Below wc.heap.size wc w') := fun W hW => by
      obtain ⟨_, va, vb, vl, vo, hTW⟩ := hq W hW
      exact ⟨(true_of HW.out.1.1 (val_Sound _ _ g W va (by omega) hTW)).mono fun e w' ⟨he, hb⟩ => ⟨he, hW.trans (hb.mono hW.size)⟩, (true_of HW'.out.1.1 (val_Sound _ _ h W vb (by omega) hTW)).mono fun e w' ⟨he, hb⟩ => ⟨he, hW.trans (hb.mono hW.size)⟩,
        (true_of (lst2_good HW.out.1.1 HW'.out.1.1) (val_Sound _ _ _ W vl (by omega) hTW)).mono fun e w' ⟨he, hb⟩ => ⟨he, hW.trans (hb.mono hW.size)⟩, (true_of (obj1_good HW.out.1.1 (plain_valid key)) (val_Sound _ _ _ W vo (by omega) hTW)).mono fun e w' ⟨he, hb⟩ => ⟨he, hW.trans (hb.mono hW.size)⟩⟩
    have hwd : ∀ W, Below wc.heap.size wc W → ∀ (d : Nat) (os : Array Obj), QW W d os (22) #[.agg #[.int .u8 g.kind, .int .i64 g.num, .string g.str, .slice BL g.items.length dL, .slice BO g.vals.length dO]] (.int .i64 g.weight) ∧ QW W d os (22) #[.agg #[.int .u8 h.kind, .int .i64 h.num, .string h.str, .slice BL' h.items.length dL', .slice BO' h.vals.length dO']] (.int .i64 h.weight) ∧ QW W d os (22) #[.agg #[.int .u8 4, .int .i64 0, .string ⟨#[]⟩, .slice (some ⟨W3.heap.size + 1, 0, none⟩) 2 2, .slice none 0 0]] (.int .i64 (1 + (g.weight : Int) + (h.weight : Int))) ∧ QW W d os (22) #[.agg #[.int .u8 5, .int .i64 0, .string ⟨#[]⟩, .slice none 0 0, .slice (some ⟨br, 0, none⟩) 1 1]] (.int .i64 (1 + ((plainB key).size : Int) + (g.weight : Int))) ∧
        QW W d os (32) #[.string key] (.string (plainB key)) ∧ QW W d os (24) #[.agg #[.int .u8 g.kind, .int .i64 g.num, .string g.str, .slice BL g.items.length dL, .slice BO g.vals.length dO]] (.int .i64 g.deep) ∧ QW W d os (24) #[.agg #[.int .u8 h.kind, .int .i64 h.num, .string h.str, .slice BL' h.items.length dL', .slice BO' h.vals.length dO']] (.int .i64 h.deep) ∧ QW W d os (24) #[.agg #[.int .u8 4, .int .i64 0, .string ⟨#[]⟩, .slice (some ⟨W3.heap.size + 1, 0, none⟩) 2 2, .slice none 0 0]] (.int .i64 (1 + max (g.deep : Int) (h.deep : Int))) ∧ QW W d os (24) #[.agg #[.int .u8 5, .int .i64 0, .string ⟨#[]⟩, .slice none 0 0, .slice (some ⟨br, 0, none⟩) 1 1]] (.int .i64 (1 + (g.deep : Int))) := fun W hW d os => by
      obtain ⟨_, va, vb, vl, vo, hTW⟩ := hq _ (hW.trans ((below_regrown W d os).mono hW.size))
      have s1 := size_le_weight g
      have s2 := size_le_weight h
      have s3 := size_le_weight (GV.mk 4 0 ⟨#[]⟩ [g, h] [] [])
      have s4 := size_le_weight (GV.mk 5 0 ⟨#[]⟩ [] [plainB key] [g])
      have c3 := val_Weight _ _ _ _ vl (by omega)
      have c4 := val_Weight _ _ _ _ vo (by omega)
      have c8 := val_Deep _ _ _ _ vl (by omega)
      have c9 := val_Deep _ _ _ _ vo (by omega)
      rw [hlw] at c3
      rw [how] at c4
      rw [hld] at c8
      rw [hod] at c9
      have hmx : ((max g.deep h.deep : Nat) : Int) = max (g.deep : Int) (h.deep : Int) := by omega
      simp only [Int.natCast_add, Int.natCast_one] at c3 c4 c8 c9
      rw [hmx] at c8
      exact ⟨Calls.regrown_of (val_Weight _ _ g _ va (by omega)), Calls.regrown_of (val_Weight _ _ h _ vb (by omega)), Calls.regrown_of c3, Calls.regrown_of c4, Calls.regrown_of (plain_any key _ (by omega)), Calls.regrown_of (val_Deep _ _ g _ va (by omega)), Calls.regrown_of (val_Deep _ _ h _ vb (by omega)), Calls.regrown_of c8, Calls.regrown_of c9⟩
    have HF := Lib.hid (fun (W : World) (hW : Below wc.heap.size wc W) => (hq W hW).1)
    have HSND := Lib.hid hsnd
    have HWD := Lib.hid hwd
    have K0 := Lib.hid (Below.refl wc.heap.size wc)
    have HBC := Lib.hid (HDW.out.trans (hB.mono HDW.out.size))
    clear hq hlw how hld hod hsnd hwd hB hwr hwo hb10 x0 x1 x2 x3 x4
    obtain ⟨x0, x1, x2, x3, x4, _⟩ := (HF.out _ K0.out).1
    generalize g.weight = wa at *
    generalize h.weight = wb at *
    generalize g.deep = da at *
    generalize h.deep = db at *
    go_wp2_with (first | (go_at_call 20; refine (HSND.out _ K3.out).2.2.2.mono ?_; rintro e Wd ⟨rfl, hk⟩; have K4 := Lib.hid hk; clear hk) | (go_at_call 20; refine (HSND.out _ K2.out).2.2.1.mono ?_; rintro e Wq ⟨rfl, hk⟩; have K3 := Lib.hid hk; obtain ⟨w0, w1, w2, w3, w4, _⟩ := (HF.out _ K3.out).2.2.2; clear hk) | (go_at_call 20; refine (HSND.out _ K1.out).2.1.mono ?_; rintro e Wp ⟨rfl, hk⟩; have K2 := Lib.hid hk; obtain ⟨z0, z1, z2, z3, z4, _⟩ := (HF.out _ K2.out).2.2.1; clear hk) | (go_at_call 20; refine (HSND.out _ K0.out).1.mono ?_; rintro e Wo ⟨rfl, hk⟩; have K1 := Lib.hid hk; obtain ⟨y0, y1, y2, y3, y4, _⟩ := (HF.out _ K1.out).2.1; clear hk))
    clear x0 x1 x2 x3 x4 y0 y1 y2 y3 y4 z0 z1 z2 z3 z4 w0 w1 w2 w3 w4
    have e1 : IntKind.i64.wrap (1 + (wa : Int)) = 1 + (wa : Int) := wrap_small _ (by omega) (by omega)
    have e2 : IntKind.i64.wrap (1 + (wa : Int) + (wb : Int)) = 1 + (wa : Int) + (wb : Int) := wrap_small _ (by omega) (by omega)
    have e3 : IntKind.i64.wrap (1 + ((plainB key).size : Int)) = 1 + ((plainB key).size : Int) := wrap_small _ (by omega) (by omega)
    have e4 : IntKind.i64.wrap (1 + ((plainB key).size : Int) + (wa : Int)) = 1 + ((plainB key).size : Int) + (wa : Int) := wrap_small _ (by omega) (by omega)
    obtain ⟨⟨x0, x1, x2, x3, x4, _⟩, ⟨y0, y1, y2, y3, y4, _⟩, ⟨z0, z1, z2, z3, z4, _⟩, ⟨w0, w1, w2, w3, w4, _⟩⟩ := HF.out _ K4.out
    have r0 := cell_regrown x0
    have r1 := cell_regrown x1
    have r2 := cell_regrown x2
    have r3 := cell_regrown x3
    have r4 := cell_regrown x4
    have s0 := cell_regrown y0
    have s1 := cell_regrown y1
    have s2 := cell_regrown y2
    have s3 := cell_regrown y3
    have s4 := cell_regrown y4
    have t0 := cell_regrown z0
    have t1 := cell_regrown z1
    have t2 := cell_regrown z2
    have t3 := cell_regrown z3
    have t4 := cell_regrown z4
    have v0 := cell_regrown w0
    have v1 := cell_regrown w1
    have v2 := cell_regrown w2
    have v3 := cell_regrown w3
    have v4 := cell_regrown w4
    clear x0 x1 x2 x3 x4 y0 y1 y2 y3 y4 z0 z1 z2 z3 z4 w0 w1 w2 w3 w4
    have C := Lib.hid (HWD.out _ K4.out)
    refine wp_region_quiet_below (by kernel_rfl) (by kernel_rfl) ?_
    repeat (any_goals (go_big_quiet_step (first | with_reducible exact (C.out _ _).1 | with_reducible exact (C.out _ _).2.1 | with_reducible exact (C.out _ _).2.2.1 | with_reducible exact (C.out _ _).2.2.2.1 | with_reducible exact (C.out _ _).2.2.2.2.1 | with_reducible exact (C.out _ _).2.2.2.2.2.1 | with_reducible exact (C.out _ _).2.2.2.2.2.2.1 | with_reducible exact (C.out _ _).2.2.2.2.2.2.2.1 | with_reducible exact (C.out _ _).2.2.2.2.2.2.2.2)))
    refine wpQuiet_nil ?_
    intro _ hw'
    obtain ⟨⟨dq1, osq1⟩, hw''⟩ := hw'
    subst hw''
    clear C r0 r1 r2 r3 r4 s0 s1 s2 s3 s4 t0 t1 t2 t3 t4 v0 v1 v2 v3 v4
    clear e1 e2 e3 e4
    go_wp2_with fail
    have K5 := Lib.hid (K4.out.trans ((below_regrown Wd dq1 osq1).mono K4.out.size))
    generalize grow (redrawn Wd dq1) osq1 = We at *
    have e5 : IntKind.i64.wrap (1 + max (da : Int) (db : Int)) = 1 + max (da : Int) (db : Int) := wrap_small _ (by omega) (by omega)
    have e6 : IntKind.i64.wrap (1 + (da : Int)) = 1 + (da : Int) := wrap_small _ (by omega) (by omega)
    obtain ⟨⟨x0, x1, x2, x3, x4, _⟩, ⟨y0, y1, y2, y3, y4, _⟩, ⟨z0, z1, z2, z3, z4, _⟩, ⟨w0, w1, w2, w3, w4, _⟩⟩ := HF.out _ K5.out
    have r0 := cell_regrown x0
    have r1 := cell_regrown x1
    have r2 := cell_regrown x2
    have r3 := cell_regrown x3
    have r4 := cell_regrown x4
    have s0 := cell_regrown y0
    have s1 := cell_regrown y1
    have s2 := cell_regrown y2
    have s3 := cell_regrown y3
    have s4 := cell_regrown y4
    have t0 := cell_regrown z0
    have t1 := cell_regrown z1
    have t2 := cell_regrown z2
    have t3 := cell_regrown z3
    have t4 := cell_regrown z4
    have v0 := cell_regrown w0
    have v1 := cell_regrown w1
    have v2 := cell_regrown w2
    have v3 := cell_regrown w3
    have v4 := cell_regrown w4
    clear x0 x1 x2 x3 x4 y0 y1 y2 y3 y4 z0 z1 z2 z3 z4 w0 w1 w2 w3 w4
    have C := Lib.hid (HWD.out _ K5.out)
    refine wp_region_quiet_below (by kernel_rfl) (by kernel_rfl) ?_
    repeat (any_goals (go_big_quiet_step (first | with_reducible exact (C.out _ _).1 | with_reducible exact (C.out _ _).2.1 | with_reducible exact (C.out _ _).2.2.1 | with_reducible exact (C.out _ _).2.2.2.1 | with_reducible exact (C.out _ _).2.2.2.2.1 | with_reducible exact (C.out _ _).2.2.2.2.2.1 | with_reducible exact (C.out _ _).2.2.2.2.2.2.1 | with_reducible exact (C.out _ _).2.2.2.2.2.2.2.1 | with_reducible exact (C.out _ _).2.2.2.2.2.2.2.2)))
    refine wpQuiet_nil ?_
    intro _ hw'
    obtain ⟨⟨dq2, osq2⟩, hw''⟩ := hw'
    subst hw''
    clear C r0 r1 r2 r3 r4 s0 s1 s2 s3 s4 t0 t1 t2 t3 t4 v0 v1 v2 v3 v4
    clear e5 e6
    go_wp2
    refine bodyPost_ret (v := .bool true) (by simp [results, Tryd.results7, go_sem]) rfl ?_
    exact ⟨rfl, (HBC.out.trans (K5.out.mono HBC.out.size)).trans ((below_regrown We dq2 osq2).mono ((HBC.out.trans (K5.out.mono HBC.out.size)).size))⟩
end Go.Proofs.YtjknicljbmakeaaDoor
