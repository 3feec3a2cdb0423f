/- CompSounds, the Go function: it comes out true. -/
import Derived.Test.YtmdiiejhamameaaDoorCompEx
import Derived.Test.YtmdiiejhamameaaDoorCompB
import Derived.Test.YtmdiiejhamameaaDoorCompOz
namespace Go.Proofs.YtmdiiejhamameaaDoor
open Go Go.RowKit
open Go.Sort (grow)
set_option linter.unusedVariables false
set_option linter.unusedSimpArgs false

theorem sameStep_is (x : GStep) : sameStep x x = true := by simp [sameStep]
theorem samePB_is (ps : List GStep) : samePB ps ps = true := by
  unfold samePB
  rw [Lib.allEq_all sameStep ps ps rfl (fun j hj => sameStep_is _)]
  simp
theorem gc_same (c : GC) : c.Same c := ⟨rfl, rfl, rfl, rfl, rfl, rfl, samePB_is _, same_refl _⟩
/-- The two boxes. -/
structure DB2 (w W : World) (ca cb : Array Value) : Prop where
  a : Whole W w.heap.size 25 ca
  b : Whole W (w.heap.size + 1) 25 cb
  below : Below w.heap.size w W
theorem DB2.new (w : World) (ca cb : Array Value) : DB2 w ((w.alloc (.cells ca 25)).alloc (.cells cb 25)) ca cb :=
  ⟨(Whole.new w _ ca).alloc _, by have := Whole.new (w.alloc (.cells ca 25)) 25 cb; rwa [World.size_alloc] at this, ((Below.refl _ _).alloc (Nat.le_refl _) _).alloc (by simp) _⟩
theorem DB2.step {w W W' : World} {ca cb : Array Value} (h : DB2 w W ca cb) (hb : Below W.heap.size W W') : DB2 w W' ca cb :=
  ⟨h.a.below hb h.a.lt, h.b.below hb h.b.lt, h.below.trans (hb.mono h.below.size)⟩
theorem Whole.eight {W : World} {b : Nat} {t : TypeId} {a0 a1 a2 a3 a4 a5 a6 a7 : Value} (h : Whole W b t #[a0, a1, a2, a3, a4, a5, a6, a7]) : W.cell? ⟨b, 0, none⟩ = some a0 ∧ W.cell? ⟨b, 1, none⟩ = some a1 ∧ W.cell? ⟨b, 2, none⟩ = some a2 ∧ W.cell? ⟨b, 3, none⟩ = some a3 ∧ W.cell? ⟨b, 4, none⟩ = some a4 ∧ W.cell? ⟨b, 5, none⟩ = some a5 ∧ W.cell? ⟨b, 6, none⟩ = some a6 ∧ W.cell? ⟨b, 7, none⟩ = some a7 :=
  ⟨h.cell 0, h.cell 1, h.cell 2, h.cell 3, h.cell 4, h.cell 5, h.cell 6, h.cell 7⟩
/-- What is asked of a component, as it is. -/
structure BareOk (w : World) (x : GB) (B : Option Addr) (bap : Nat) (D : Option Addr) (dap : Nat) : Prop where
  path : Wy w B bap x.path
  keys : ∀ s ∈ x.path, s.key.size ≤ 140737488351232
  toks : Toks w.heap.size w D x.v
  cap : x.v.length ≤ dap ∧ dap ≤ maxLen
  len : x.v.length ≤ 1000000
  rng : ∀ t ∈ x.v, 0 ≤ t.k ∧ t.k ≤ 255 ∧ 0 ≤ t.m ∧ t.m ≤ 255
  sum : x.key.size + x.s.size + tot x.v ≤ 4398046511104
theorem BareOk.later {w W : World} {x : GB} {B : Option Addr} {bap : Nat} {D : Option Addr} {dap : Nat} (h : BareOk w x B bap D dap) (hb : Below w.heap.size w W) : BareOk W x B bap D dap := ⟨h.path.later hb, h.keys, h.toks.keep hb hb.size, h.cap, h.len, h.rng, h.sum⟩
theorem heavy_none {w : World} {x : GB} {B : Option Addr} {bap : Nat} {D : Option Addr} {dap : Nat} (h : BareOk w x B bap D dap) :
    Calls Tryd.prog 7 #[.slice none 0 0, .agg #[.int .u8 x.kind, .slice B x.path.length bap, .string x.key, .int .i64 x.i, .int .i64 x.j, .int .i64 x.n, .string x.s, .slice D x.v.length dap]] w fun e w' => ∃ b, e = .returned (.bool b) ∧ Below w.heap.size w w' ∧ (b = false → x.key.size + x.s.size + tot x.v ≤ 3000 ∧ x.path.length ≤ 40) :=
  (heavyc_any w.heap.size none 0 [] x B bap D dap w (fun h => absurd rfl h) h.toks (Nat.le_refl _) (by have := h.sum; simp [tot]; omega) (by simp) (by have := h.len; omega)).mono fun e w' ⟨b, he, hb, hf⟩ => ⟨b, he, hb, fun hbb => by have := hf hbb; simp [tot] at this; exact this⟩

set_option maxRecDepth 100000 in
set_option maxHeartbeats 16000000 in
theorem csounds_true (x y : GB) (B : Option Addr) (bap : Nat) (D : Option Addr) (dap : Nat) (B' : Option Addr) (bap' : Nat) (D' : Option Addr) (dap' : Nat) (w : World) (hx : BareOk w x B bap D dap) (hy : BareOk w y B' bap' D' dap') (hT : Tabs w) :
    Calls Tryd.prog 3 #[.agg #[.int .u8 x.kind, .slice B x.path.length bap, .string x.key, .int .i64 x.i, .int .i64 x.j, .int .i64 x.n, .string x.s, .slice D x.v.length dap], .agg #[.int .u8 y.kind, .slice B' y.path.length bap', .string y.key, .int .i64 y.i, .int .i64 y.j, .int .i64 y.n, .string y.s, .slice D' y.v.length dap']] w (TrueBelow w) := by
  have HHA := Lib.hid (fun W (hb : Below w.heap.size w W) => heavy_none (hx.later hb))
  have HHB := Lib.hid (fun W (hb : Below w.heap.size w W) => heavy_none (hy.later hb))
  have HKN := Lib.hid (fun W (hb : Below w.heap.size w W) => cknown_true W (hT.below hb (Nat.le_refl _)))
  have HCA := Lib.hid (fun W (hb : Below w.heap.size w W) => comp_any x B bap D dap W (hx.later hb).path (hx.later hb).toks hx.cap.1 hx.cap.2 hx.len hx.rng)
  have HCB := Lib.hid (fun W (hb : Below w.heap.size w W) => comp_any y B' bap' D' dap' W (hy.later hb).path (hy.later hb).toks hy.cap.1 hy.cap.2 hy.len hy.rng)
  have H0 := Lib.hid (DB2.new w #[.int .u8 x.kind, .slice B x.path.length bap, .string x.key, .int .i64 x.i, .int .i64 x.j, .int .i64 x.n, .string x.s, .slice D x.v.length dap] #[.int .u8 y.kind, .slice B' y.path.length bap', .string y.key, .int .i64 y.i, .int .i64 y.j, .int .i64 y.n, .string y.s, .slice D' y.v.length dap'])
  have HX := Lib.hid hx
  have HT := Lib.hid hT
  unfold TrueBelow at HKN
  unfold CompOut at HCA HCB
  clear hx hy hT
  go_enter Tryd.func3, Tryd.ntmps3
  go_wp2_with (first
    | (go_at_call 7; refine (HHB.out _ HA1.out.2.below).mono ?_; rintro e w2 ⟨bb, rfl, hb, hf⟩; have HB2 := Lib.hid (And.intro hf (HA1.out.2.step hb)); obtain ⟨q0, q1, q2, q3, q4, q5, q6, q7⟩ := HB2.out.2.a.eight; clear hb hf)
    | (go_at_call 7; refine (HHA.out _ H0.out.below).mono ?_; rintro e w1 ⟨ba, rfl, hb, hf⟩; have HA1 := Lib.hid (And.intro hf (H0.out.step hb)); obtain ⟨p0, p1, p2, p3, p4, p5, p6, p7⟩ := HA1.out.2.b.eight; clear hb hf)
    | (go_at_call 8; refine (HKN.out _ HB2.out.2.below).mono ?_; rintro e w3 ⟨rfl, hb⟩; have HK3 := Lib.hid (HB2.out.2.step hb); obtain ⟨s0, s1, s2, s3, s4, s5, s6, s7⟩ := HK3.out.a.eight; clear hb)
    | (go_at_call 8; refine (HKN.out _ HA1.out.2.below).mono ?_; rintro e w3 ⟨rfl, hb⟩; have HK3 := Lib.hid (HA1.out.2.step hb); clear hb))
  · refine bodyPost_ret (v := .bool true) (by simp [results, Tryd.results3, go_sem]) rfl ?_
    exact ⟨rfl, HK3.out.below⟩
  · refine bodyPost_ret (v := .bool true) (by simp [results, Tryd.results3, go_sem]) rfl ?_
    exact ⟨rfl, HK3.out.below⟩
  have hna := HA1.out.1 (by simpa using ‹¬ ba = true›)
  have hnb := HB2.out.1 (by simpa using ‹¬ bb = true›)
  have hxk := HX.out.keys
  refine (HCA.out _ HK3.out.below).mono ?_
  rintro e w4 ⟨ga, XL, XO, xl, xo, rfl, hwa, hpa, hca, hb4⟩
  have hga : ga.weight ≤ 7000 := by have := hna.1; omega
  have H4 := Lib.hid (And.intro hca (HK3.out.step hb4))
  have HGA := Lib.hid (And.intro hga hpa)
  have HNA := Lib.hid (show (x.key.size ≤ 3000 ∧ x.s.size ≤ 3000 ∧ x.path.length ≤ 40) ∧ tot y.v ≤ 3000 from ⟨⟨by omega, by omega, hna.2⟩, by omega⟩)
  have HCO := Lib.hid (fun W (hb : Below w4.heap.size w4 W) => (comp_Copy (x.comp ga) B XL XO bap xl xo W (hca.later hb) (show ga.weight ≤ 1000000000 by omega) (show x.path.length ≤ 1000000000 by have := hna.2; omega) (show x.key.size ≤ 281474976710656 by omega) (show x.s.size ≤ 281474976710656 by omega) (fun s hs => by have := hxk s hs; omega)).mono (R' := fun e w' => ∃ (E ZL ZO : Option Addr) (ep zl zo : Nat), e = .returned (.agg #[.int .u8 x.kind, .slice E x.path.length ep, .string x.key, .int .i64 x.i, .int .i64 x.j, .int .i64 x.n, .int .u8 ga.kind, .int .i64 ga.num, .string ga.str, .slice ZL ga.items.length zl, .slice ZO ga.vals.length zo, .string x.s]) ∧ Cc w' (x.comp ga) E ZL ZO ep zl zo ∧ Below W.heap.size W w') fun e w' ⟨E, ZL, ZO, ep, zl, zo, he, hc, hb⟩ => ⟨E, ZL, ZO, ep, zl, zo, he, hc, hb⟩)
  have t0 := fun o => cell_alloc o H4.out.2.b.eight.1
  have t1 := fun o => cell_alloc o H4.out.2.b.eight.2.1
  have t2 := fun o => cell_alloc o H4.out.2.b.eight.2.2.1
  have t3 := fun o => cell_alloc o H4.out.2.b.eight.2.2.2.1
  have t4 := fun o => cell_alloc o H4.out.2.b.eight.2.2.2.2.1
  have t5 := fun o => cell_alloc o H4.out.2.b.eight.2.2.2.2.2.1
  have t6 := fun o => cell_alloc o H4.out.2.b.eight.2.2.2.2.2.2.1
  have t7 := fun o => cell_alloc o H4.out.2.b.eight.2.2.2.2.2.2.2
  clear hna hnb hxk hwa hpa hca hb4 hga p0 p1 p2 p3 p4 p5 p6 p7 q0 q1 q2 q3 q4 q5 q6 q7 s0 s1 s2 s3 s4 s5 s6 s7
  go_wp2_with (first
    | (go_at_call 9; refine (HCB.out _ (H4.out.2.below.alloc H4.out.2.below.size _)).mono ?_; rintro e w5 ⟨gb, YL, YO, yl, yo, rfl, hwb, hpb, hcb, hb5⟩; have H5 := Lib.hid (And.intro hcb (And.intro hwb (show Below w4.heap.size w4 w5 from (below_alloc w4 _).trans (hb5.mono (by simp))))); have HX5 := Lib.hid ((Whole.new w4 33 #[.int .u8 x.kind, .slice B x.path.length bap, .string x.key, .int .i64 x.i, .int .i64 x.j, .int .i64 x.n, .int .u8 ga.kind, .int .i64 ga.num, .string ga.str, .slice XL ga.items.length xl, .slice XO ga.vals.length xo, .string x.s]).below hb5 (by simp)); have x0 := fun o => cell_alloc o HX5.out.tw.c0; have x1 := fun o => cell_alloc o HX5.out.tw.c1; have x2 := fun o => cell_alloc o HX5.out.tw.c2; have x3 := fun o => cell_alloc o HX5.out.tw.c3; have x4 := fun o => cell_alloc o HX5.out.tw.c4; have x5 := fun o => cell_alloc o HX5.out.tw.c5; have x6 := fun o => cell_alloc o HX5.out.tw.c6; have x7 := fun o => cell_alloc o HX5.out.tw.c7; have x8 := fun o => cell_alloc o HX5.out.tw.c8; have x9 := fun o => cell_alloc o HX5.out.tw.c9; have x10 := fun o => cell_alloc o HX5.out.tw.c10; have x11 := fun o => cell_alloc o HX5.out.tw.c11; clear hwb hpb hcb hb5 t0 t1 t2 t3 t4 t5 t6 t7)
    | (go_at_call 10; refine (HCO.out _ (H5.out.2.2.trans ((below_alloc w5 _).mono H5.out.2.2.size))).mono ?_; rintro e w6 ⟨E, ZL, ZO, ep, zl, zo, rfl, hcz, hb6⟩; have HB6 := Lib.hid ((below_alloc w5 (.cells #[.int .u8 y.kind, .slice B' y.path.length bap', .string y.key, .int .i64 y.i, .int .i64 y.j, .int .i64 y.n, .int .u8 gb.kind, .int .i64 gb.num, .string gb.str, .slice YL gb.items.length yl, .slice YO gb.vals.length yo, .string y.s] 33)).trans (hb6.mono (by simp))); have HY6 := Lib.hid ((Whole.new w5 33 #[.int .u8 y.kind, .slice B' y.path.length bap', .string y.key, .int .i64 y.i, .int .i64 y.j, .int .i64 y.n, .int .u8 gb.kind, .int .i64 gb.num, .string gb.str, .slice YL gb.items.length yl, .slice YO gb.vals.length yo, .string y.s]).below hb6 (by simp)); have HZ6 := Lib.hid hcz; clear hcz hb6 x0 x1 x2 x3 x4 x5 x6 x7 x8 x9 x10 x11))
  have hb7 := below_alloc w6 (.cells #[.int .u8 x.kind, .slice E x.path.length ep, .string x.key, .int .i64 x.i, .int .i64 x.j, .int .i64 x.n, .int .u8 ga.kind, .int .i64 ga.num, .string ga.str, .slice ZL ga.items.length zl, .slice ZO ga.vals.length zo, .string x.s] 33)
  have hZ := Whole.new w6 33 #[.int .u8 x.kind, .slice E x.path.length ep, .string x.key, .int .i64 x.i, .int .i64 x.j, .int .i64 x.n, .int .u8 ga.kind, .int .i64 ga.num, .string ga.str, .slice ZL ga.items.length zl, .slice ZO ga.vals.length zo, .string x.s]
  have hbw : Below w.heap.size w (w6.alloc (.cells #[.int .u8 x.kind, .slice E x.path.length ep, .string x.key, .int .i64 x.i, .int .i64 x.j, .int .i64 x.n, .int .u8 ga.kind, .int .i64 ga.num, .string ga.str, .slice ZL ga.items.length zl, .slice ZO ga.vals.length zo, .string x.s] 33)) := H4.out.2.below.trans ((H5.out.2.2.trans ((HB6.out.trans (hb7.mono HB6.out.size)).mono H5.out.2.2.size)).mono H4.out.2.below.size)
  have hX := (HX5.out.below HB6.out HX5.out.lt).below hb7 (Nat.lt_of_lt_of_le HX5.out.lt HB6.out.size)
  have hY := HY6.out.below hb7 HY6.out.lt
  have hcx : Cc (w6.alloc (.cells #[.int .u8 x.kind, .slice E x.path.length ep, .string x.key, .int .i64 x.i, .int .i64 x.j, .int .i64 x.n, .int .u8 ga.kind, .int .i64 ga.num, .string ga.str, .slice ZL ga.items.length zl, .slice ZO ga.vals.length zo, .string x.s] 33)) (x.comp ga) B XL XO bap xl xo := ((H4.out.1.later H5.out.2.2).later HB6.out).later hb7
  have hcy : Cc (w6.alloc (.cells #[.int .u8 x.kind, .slice E x.path.length ep, .string x.key, .int .i64 x.i, .int .i64 x.j, .int .i64 x.n, .int .u8 ga.kind, .int .i64 ga.num, .string ga.str, .slice ZL ga.items.length zl, .slice ZO ga.vals.length zo, .string x.s] 33)) (y.comp gb) B' YL YO bap' yl yo := (H5.out.1.later HB6.out).later hb7
  have hcz : Cc (w6.alloc (.cells #[.int .u8 x.kind, .slice E x.path.length ep, .string x.key, .int .i64 x.i, .int .i64 x.j, .int .i64 x.n, .int .u8 ga.kind, .int .i64 ga.num, .string ga.str, .slice ZL ga.items.length zl, .slice ZO ga.vals.length zo, .string x.s] 33)) (x.comp ga) E ZL ZO ep zl zo := HZ6.out.later hb7
  have hT7 := HT.out.below hbw (Nat.le_refl _)
  have hwga : (x.comp ga).v.weight ≤ 1000000000 := by show ga.weight ≤ 1000000000; have := HGA.out.1; omega
  have hwgb : (y.comp gb).v.weight ≤ 1000000000 := by show gb.weight ≤ 1000000000; have := H5.out.2.1; have := HNA.out.2; omega
  have hxk : ∀ s ∈ (x.comp ga).path, s.key.size ≤ 9223372036854775807 := fun s hs => by have := HX.out.keys s hs; omega
  have hk1 : (x.comp ga).key.size ≤ 9223372036854775807 := by show x.key.size ≤ 9223372036854775807; have := HNA.out.1.1; omega
  have hk2 : (x.comp ga).s.size ≤ 9223372036854775807 := by show x.s.size ≤ 9223372036854775807; have := HNA.out.1.2.1; omega
  have hpos := HGA.out.2
  clear hb7
  generalize (w6.alloc (.cells #[.int .u8 x.kind, .slice E x.path.length ep, .string x.key, .int .i64 x.i, .int .i64 x.j, .int .i64 x.n, .int .u8 ga.kind, .int .i64 ga.num, .string ga.str, .slice ZL ga.items.length zl, .slice ZO ga.vals.length zo, .string x.s] 33)) = Wx at *
  obtain ⟨bs, hbs⟩ := bool_some (x.comp ga).Sound
  obtain ⟨bq, hbq⟩ := bool_some ((x.comp ga).Same (y.comp gb))
  have D1 := Lib.hid (show ∀ d os, Calls Tryd.prog 11 #[.agg #[.int .u8 x.kind, .slice B x.path.length bap, .string x.key, .int .i64 x.i, .int .i64 x.j, .int .i64 x.n, .int .u8 ga.kind, .int .i64 ga.num, .string ga.str, .slice XL ga.items.length xl, .slice XO ga.vals.length xo, .string x.s]] (grow (redrawn Wx d) os) fun e w'' => e = .returned (.bool bs) ∧ ∃ p : Regrown, w'' = grow (redrawn Wx p.d) p.os from fun d os => Calls.regrown_of (bool_det (comp_Sound (x.comp ga) B XL XO bap xl xo (grow (redrawn Wx d) os) (hcx.later (below_regrown Wx d os)) hwga hk1 hk2 hxk (hT7.below (below_regrown Wx d os) (Nat.le_refl _))) bs hbs))
  have D2 := Lib.hid (show ∀ d os, Calls Tryd.prog 12 #[.agg #[.int .u8 x.kind, .slice B x.path.length bap, .string x.key, .int .i64 x.i, .int .i64 x.j, .int .i64 x.n, .int .u8 ga.kind, .int .i64 ga.num, .string ga.str, .slice XL ga.items.length xl, .slice XO ga.vals.length xo, .string x.s]] (grow (redrawn Wx d) os) fun e w'' => e = .returned (.bool bs) ∧ ∃ p : Regrown, w'' = grow (redrawn Wx p.d) p.os from fun d os => Calls.regrown_of (bool_det (ref_SoundC (x.comp ga) B XL XO bap xl xo (grow (redrawn Wx d) os) (hcx.later (below_regrown Wx d os)) hwga hpos hk1 hk2 hxk (hT7.below (below_regrown Wx d os) (Nat.le_refl _))) bs hbs))
  have D3 := Lib.hid (show ∀ d os, Calls Tryd.prog 13 #[.agg #[.int .u8 x.kind, .slice B x.path.length bap, .string x.key, .int .i64 x.i, .int .i64 x.j, .int .i64 x.n, .int .u8 ga.kind, .int .i64 ga.num, .string ga.str, .slice XL ga.items.length xl, .slice XO ga.vals.length xo, .string x.s], .agg #[.int .u8 y.kind, .slice B' y.path.length bap', .string y.key, .int .i64 y.i, .int .i64 y.j, .int .i64 y.n, .int .u8 gb.kind, .int .i64 gb.num, .string gb.str, .slice YL gb.items.length yl, .slice YO gb.vals.length yo, .string y.s]] (grow (redrawn Wx d) os) fun e w'' => e = .returned (.bool bq) ∧ ∃ p : Regrown, w'' = grow (redrawn Wx p.d) p.os from fun d os => Calls.regrown_of (bool_det (comp_Same (x.comp ga) (y.comp gb) B XL XO B' YL YO bap xl xo bap' yl yo (grow (redrawn Wx d) os) (hcx.later (below_regrown Wx d os)) (hcy.later (below_regrown Wx d os)) hwga hwgb) bq hbq))
  have D4 := Lib.hid (show ∀ d os, Calls Tryd.prog 14 #[.agg #[.int .u8 x.kind, .slice B x.path.length bap, .string x.key, .int .i64 x.i, .int .i64 x.j, .int .i64 x.n, .int .u8 ga.kind, .int .i64 ga.num, .string ga.str, .slice XL ga.items.length xl, .slice XO ga.vals.length xo, .string x.s], .agg #[.int .u8 y.kind, .slice B' y.path.length bap', .string y.key, .int .i64 y.i, .int .i64 y.j, .int .i64 y.n, .int .u8 gb.kind, .int .i64 gb.num, .string gb.str, .slice YL gb.items.length yl, .slice YO gb.vals.length yo, .string y.s]] (grow (redrawn Wx d) os) fun e w'' => e = .returned (.bool bq) ∧ ∃ p : Regrown, w'' = grow (redrawn Wx p.d) p.os from fun d os => Calls.regrown_of (bool_det (ref_SameC (x.comp ga) (y.comp gb) B XL XO B' YL YO bap xl xo bap' yl yo (grow (redrawn Wx d) os) (hcx.later (below_regrown Wx d os)) (hcy.later (below_regrown Wx d os)) hwga hwgb) bq hbq))
  have D5 := Lib.hid (show ∀ d os, Calls Tryd.prog 14 #[.agg #[.int .u8 x.kind, .slice B x.path.length bap, .string x.key, .int .i64 x.i, .int .i64 x.j, .int .i64 x.n, .int .u8 ga.kind, .int .i64 ga.num, .string ga.str, .slice XL ga.items.length xl, .slice XO ga.vals.length xo, .string x.s], .agg #[.int .u8 x.kind, .slice E x.path.length ep, .string x.key, .int .i64 x.i, .int .i64 x.j, .int .i64 x.n, .int .u8 ga.kind, .int .i64 ga.num, .string ga.str, .slice ZL ga.items.length zl, .slice ZO ga.vals.length zo, .string x.s]] (grow (redrawn Wx d) os) fun e w'' => e = .returned (.bool true) ∧ ∃ p : Regrown, w'' = grow (redrawn Wx p.d) p.os from fun d os => Calls.regrown_of (bool_det (ref_SameC (x.comp ga) (x.comp ga) B XL XO E ZL ZO bap xl xo ep zl zo (grow (redrawn Wx d) os) (hcx.later (below_regrown Wx d os)) (hcz.later (below_regrown Wx d os)) hwga hwga) true (by simp [gc_same])))
  have D6 := Lib.hid (show ∀ d os, Calls Tryd.prog 13 #[.agg #[.int .u8 x.kind, .slice B x.path.length bap, .string x.key, .int .i64 x.i, .int .i64 x.j, .int .i64 x.n, .int .u8 ga.kind, .int .i64 ga.num, .string ga.str, .slice XL ga.items.length xl, .slice XO ga.vals.length xo, .string x.s], .agg #[.int .u8 x.kind, .slice B x.path.length bap, .string x.key, .int .i64 x.i, .int .i64 x.j, .int .i64 x.n, .int .u8 ga.kind, .int .i64 ga.num, .string ga.str, .slice XL ga.items.length xl, .slice XO ga.vals.length xo, .string x.s]] (grow (redrawn Wx d) os) fun e w'' => e = .returned (.bool true) ∧ ∃ p : Regrown, w'' = grow (redrawn Wx p.d) p.os from fun d os => Calls.regrown_of (bool_det (comp_Same (x.comp ga) (x.comp ga) B XL XO B XL XO bap xl xo bap xl xo (grow (redrawn Wx d) os) (hcx.later (below_regrown Wx d os)) (hcx.later (below_regrown Wx d os)) hwga hwga) true (by simp [gc_same])))
  have HW := Lib.hid hbw
  have ux0 := cell_regrown hX.tw.c0; have ux1 := cell_regrown hX.tw.c1; have ux2 := cell_regrown hX.tw.c2; have ux3 := cell_regrown hX.tw.c3; have ux4 := cell_regrown hX.tw.c4; have ux5 := cell_regrown hX.tw.c5; have ux6 := cell_regrown hX.tw.c6; have ux7 := cell_regrown hX.tw.c7; have ux8 := cell_regrown hX.tw.c8; have ux9 := cell_regrown hX.tw.c9; have ux10 := cell_regrown hX.tw.c10; have ux11 := cell_regrown hX.tw.c11
  have uy0 := cell_regrown hY.tw.c0; have uy1 := cell_regrown hY.tw.c1; have uy2 := cell_regrown hY.tw.c2; have uy3 := cell_regrown hY.tw.c3; have uy4 := cell_regrown hY.tw.c4; have uy5 := cell_regrown hY.tw.c5; have uy6 := cell_regrown hY.tw.c6; have uy7 := cell_regrown hY.tw.c7; have uy8 := cell_regrown hY.tw.c8; have uy9 := cell_regrown hY.tw.c9; have uy10 := cell_regrown hY.tw.c10; have uy11 := cell_regrown hY.tw.c11
  have uz0 := cell_regrown hZ.tw.c0; have uz1 := cell_regrown hZ.tw.c1; have uz2 := cell_regrown hZ.tw.c2; have uz3 := cell_regrown hZ.tw.c3; have uz4 := cell_regrown hZ.tw.c4; have uz5 := cell_regrown hZ.tw.c5; have uz6 := cell_regrown hZ.tw.c6; have uz7 := cell_regrown hZ.tw.c7; have uz8 := cell_regrown hZ.tw.c8; have uz9 := cell_regrown hZ.tw.c9; have uz10 := cell_regrown hZ.tw.c10; have uz11 := cell_regrown hZ.tw.c11
  clear hX hY hZ hcx hcy hcz hT7 hwga hwgb hxk hk1 hk2 hpos hbs hbq hbw
  clear HHA HHB HKN HCA HCB H0 HX HT HA1 HB2 HK3 H4 HGA HNA HCO H5 HX5 HB6 HY6 HZ6
  refine wp_region_quiet_below (by kernel_rfl) (by kernel_rfl) ?_
  repeat (any_goals (go_big_quiet_step (first | with_reducible exact D1.out _ _ | with_reducible exact D2.out _ _ | with_reducible exact D3.out _ _ | with_reducible exact D4.out _ _ | with_reducible exact D5.out _ _ | with_reducible exact D6.out _ _)))
  refine wpQuiet_nil ?_
  intro _ hw'
  obtain ⟨⟨dq, osq⟩, hw''⟩ := hw'
  subst hw''
  go_wp2
  refine bodyPost_ret (v := .bool true) (by simp [results, Tryd.results3, go_sem]) rfl ?_
  exact ⟨rfl, HW.out.trans ((below_regrown Wx dq osq).mono HW.out.size)⟩
end Go.Proofs.YtmdiiejhamameaaDoor
