/- SeqDoes, the Go function: it comes out true. -/
import Derived.Test.YtlgggalbngpelaaSeqP
import Derived.Test.YtlgggalbngpelaaSeqO
namespace Go.Proofs.Ytlgggalbngpelaa
open Go Go.RowKit
set_option linter.unusedVariables false
set_option linter.unusedSimpArgs false

set_option maxRecDepth 100000 in
set_option maxHeartbeats 8000000 in
theorem qdoes_row (n k1 i1 j1 m1 y : Int) (w : World) (hn : 0 ≤ n ∧ n ≤ 255) (hk1 : 0 ≤ k1 ∧ k1 ≤ 255) (_hi1 : -9223372036854775808 ≤ i1 ∧ i1 ≤ 9223372036854775807) (_hj1 : -9223372036854775808 ≤ j1 ∧ j1 ≤ 9223372036854775807) (_hm1 : -9223372036854775808 ≤ m1 ∧ m1 ≤ 9223372036854775807) (hy : 0 ≤ y ∧ y ≤ 255) :
    Calls Try.prog 4 #[.int .u8 n, .agg #[.int .u8 k1, .int .i64 i1, .int .i64 j1, .int .i64 m1], .int .u8 y] w fun e w' => e = .returned (.bool true) ∧ Below w.heap.size w w' := by
  obtain ⟨m, hm, hm1⟩ : ∃ m : Nat, n % 40 = (m : Int) ∧ m ≤ 40 := ⟨(n % 40).toNat, by omega, by omega⟩
  obtain ⟨yn, rfl⟩ : ∃ yn : Nat, y = (yn : Int) := ⟨y.toNat, by omega⟩
  have hlen := nums_len m
  have HK := Lib.hid (fun W => qknown_true W)
  have HF := Lib.hid (fun W => far_any k1 i1 j1 m1 W)
  have HN := Lib.hid (fun W => numbers_any m W (by omega))
  unfold ListOut at HN
  rw [hlen] at HN
  obtain ⟨kx, jx, ax, nx, hkx, hjx, hcomp⟩ := comp_any k1 i1 j1 m1 hk1
  obtain ⟨r, lz, hr0, hr1, hwz, hd1, hd2⟩ := do_both m kx i1 jx ax nx hm1 hkx hjx
  have hkb : (0 : Int) ≤ (kx : Int) ∧ (kx : Int) ≤ 7 := by omega
  have HX := Lib.hid hcomp
  have HD := Lib.hid hd1
  have HR := Lib.hid hd2
  have HC1 := Lib.hid (fun W => check_any (m : Int) yn i1 jx none none none 0 0 0 0 0 0 ⟨#[]⟩ ⟨#[]⟩ ⟨#[]⟩ 0 ax nx W)
  have HC2 := Lib.hid (fun W => rcheck_any m yn i1 jx ax nx W)
  have hcb := chk_bound (m : Int) yn i1 jx
  have hlt := nums_light m
  have hsm := Lib.hid (fun (W : World) A c A' c' (h : ListIn (numsG m) A c W) (h' : ListIn (numsG m) A' c' W) => same_list h h' (by have := nums_weight _ hlt; omega))
  have hsz := Lib.hid (fun (W : World) A c A' c' (h : ListIn lz A c W) (h' : ListIn lz A' c' W) => same_list h h' hwz)
  unfold TwoOut at HD HR
  simp only [hlen] at hsm
  have BXA := Lib.hid (Whole.new w 35 #[.int .u8 k1, .int .i64 i1, .int .i64 j1, .int .i64 m1])
  have B0 := Lib.hid (below_alloc w (.cells #[.int .u8 k1, .int .i64 i1, .int .i64 j1, .int .i64 m1] 35))
  clear hk1 _hi1 _hj1 _hm1 hlt hwz hd1 hd2 hcomp hkx hjx hlen
  generalize chk (m : Int) yn i1 jx = rc at *
  obtain ⟨hc0, hc1⟩ := hcb
  cases hfar : farB i1 j1
  case true =>
    rw [hfar] at HF
    go_enter Try.func4, Try.ntmps4
    go_wp2_with (first
      | (go_at_call 12; refine (HF.out _).mono ?_; rintro e w1 ⟨rfl, hb⟩; have B1 := Lib.hid (B0.out.trans (hb.mono B0.out.size)); clear hb)
      | (go_at_call 11; refine (HK.out _).mono ?_; rintro e w2 ⟨rfl, hb⟩; have B2 := Lib.hid (B1.out.trans (hb.mono B1.out.size)); clear hb))
    go_ret
    exact ⟨rfl, B2.out⟩
  case false =>
    rw [hfar] at HF
    go_enter Try.func4, Try.ntmps4
    go_wp2_with (first
      | (go_at_call 12; refine (HF.out _).mono ?_; rintro e w1 ⟨rfl, hb⟩; have A1 := Lib.hid (BXA.out.below hb BXA.out.lt); have B1 := Lib.hid (B0.out.trans (hb.mono B0.out.size)); clear hb)
      | (go_at_call 11; refine (HK.out _).mono ?_; rintro e w2 ⟨rfl, hb⟩; have A2 := Lib.hid (A1.out.below hb A1.out.lt); have B2 := Lib.hid (B1.out.trans (hb.mono B1.out.size)); clear hb)
      | (go_at_call 13; refine (HN.out _).mono ?_; rintro e w3 ⟨A, c, rfl, hl, hb⟩; have L3 := Lib.hid (show ListIn (numsG m) A c w3 by unfold ListIn; rw [nums_len]; exact hl); have B3 := Lib.hid (B2.out.trans (hb.mono B2.out.size)); have A3 := Lib.hid (A2.out.below hb A2.out.lt); obtain ⟨a0, a1, a2, a3⟩ := (⟨(A3.out.cell 0).trans rfl, (A3.out.cell 1).trans rfl, (A3.out.cell 2).trans rfl, (A3.out.cell 3).trans rfl⟩ : w3.cell? ⟨w.heap.size, 0, none⟩ = some (.int .u8 k1) ∧ w3.cell? ⟨w.heap.size, 1, none⟩ = some (.int .i64 i1) ∧ w3.cell? ⟨w.heap.size, 2, none⟩ = some (.int .i64 j1) ∧ w3.cell? ⟨w.heap.size, 3, none⟩ = some (.int .i64 m1)); clear hl hb)
      | (go_at_call 14; refine (HX.out _).mono ?_; rintro e w4 ⟨rfl, hb⟩; have L4 := Lib.hid (L3.out.later hb); have B4 := Lib.hid (B3.out.trans (hb.mono B3.out.size)); clear a0 a1 a2 a3 hb))
    have HXb := Lib.hid ((Whole.new w4 29 #[.int .u8 kx, .slice none 0 0, .string ⟨#[]⟩, .int .i64 i1, .int .i64 jx, .int .i64 0, .int .u8 ax, .int .i64 nx, .string ⟨#[]⟩, .slice none 0 0, .slice none 0 0, .string ⟨#[]⟩]).alloc (.cells #[.int .u8 yn, .slice none 0 0, .string ⟨#[]⟩, .int .i64 i1, .int .i64 jx, .int .i64 0, .int .u8 ax, .int .i64 nx, .string ⟨#[]⟩, .slice none 0 0, .slice none 0 0, .string ⟨#[]⟩] 29))
    have HYb := Lib.hid (show Whole ((w4.alloc (.cells #[.int .u8 kx, .slice none 0 0, .string ⟨#[]⟩, .int .i64 i1, .int .i64 jx, .int .i64 0, .int .u8 ax, .int .i64 nx, .string ⟨#[]⟩, .slice none 0 0, .slice none 0 0, .string ⟨#[]⟩] 29)).alloc (.cells #[.int .u8 yn, .slice none 0 0, .string ⟨#[]⟩, .int .i64 i1, .int .i64 jx, .int .i64 0, .int .u8 ax, .int .i64 nx, .string ⟨#[]⟩, .slice none 0 0, .slice none 0 0, .string ⟨#[]⟩] 29)) (w4.heap.size + 1) 29 #[.int .u8 yn, .slice none 0 0, .string ⟨#[]⟩, .int .i64 i1, .int .i64 jx, .int .i64 0, .int .u8 ax, .int .i64 nx, .string ⟨#[]⟩, .slice none 0 0, .slice none 0 0, .string ⟨#[]⟩] by have := Whole.new (w4.alloc (.cells #[.int .u8 kx, .slice none 0 0, .string ⟨#[]⟩, .int .i64 i1, .int .i64 jx, .int .i64 0, .int .u8 ax, .int .i64 nx, .string ⟨#[]⟩, .slice none 0 0, .slice none 0 0, .string ⟨#[]⟩] 29)) 29 #[.int .u8 yn, .slice none 0 0, .string ⟨#[]⟩, .int .i64 i1, .int .i64 jx, .int .i64 0, .int .u8 ax, .int .i64 nx, .string ⟨#[]⟩, .slice none 0 0, .slice none 0 0, .string ⟨#[]⟩]; rwa [World.size_alloc] at this)
    have LQ := Lib.hid ((L4.out.later (below_alloc w4 (.cells #[.int .u8 kx, .slice none 0 0, .string ⟨#[]⟩, .int .i64 i1, .int .i64 jx, .int .i64 0, .int .u8 ax, .int .i64 nx, .string ⟨#[]⟩, .slice none 0 0, .slice none 0 0, .string ⟨#[]⟩] 29))).later (below_alloc (w4.alloc (.cells #[.int .u8 kx, .slice none 0 0, .string ⟨#[]⟩, .int .i64 i1, .int .i64 jx, .int .i64 0, .int .u8 ax, .int .i64 nx, .string ⟨#[]⟩, .slice none 0 0, .slice none 0 0, .string ⟨#[]⟩] 29)) (.cells #[.int .u8 yn, .slice none 0 0, .string ⟨#[]⟩, .int .i64 i1, .int .i64 jx, .int .i64 0, .int .u8 ax, .int .i64 nx, .string ⟨#[]⟩, .slice none 0 0, .slice none 0 0, .string ⟨#[]⟩] 29)))
    have BQ := Lib.hid ((B4.out.alloc B4.out.size (.cells #[.int .u8 kx, .slice none 0 0, .string ⟨#[]⟩, .int .i64 i1, .int .i64 jx, .int .i64 0, .int .u8 ax, .int .i64 nx, .string ⟨#[]⟩, .slice none 0 0, .slice none 0 0, .string ⟨#[]⟩] 29)).alloc (Nat.le_trans B4.out.size (by simp)) (.cells #[.int .u8 yn, .slice none 0 0, .string ⟨#[]⟩, .int .i64 i1, .int .i64 jx, .int .i64 0, .int .u8 ax, .int .i64 nx, .string ⟨#[]⟩, .slice none 0 0, .slice none 0 0, .string ⟨#[]⟩] 29))
    obtain ⟨wq, hwq⟩ : ∃ W, W = (w4.alloc (.cells #[.int .u8 kx, .slice none 0 0, .string ⟨#[]⟩, .int .i64 i1, .int .i64 jx, .int .i64 0, .int .u8 ax, .int .i64 nx, .string ⟨#[]⟩, .slice none 0 0, .slice none 0 0, .string ⟨#[]⟩] 29)).alloc (.cells #[.int .u8 yn, .slice none 0 0, .string ⟨#[]⟩, .int .i64 i1, .int .i64 jx, .int .i64 0, .int .u8 ax, .int .i64 nx, .string ⟨#[]⟩, .slice none 0 0, .slice none 0 0, .string ⟨#[]⟩] 29) := ⟨_, rfl⟩
    rw [← hwq] at HXb HYb LQ BQ ⊢
    clear hwq L4 B4 L3 B3 A3 A2 A1 B2 B1 BXA B0 HF HX
    generalize hby : w4.heap.size + 1 = by_ at *
    clear hby
    generalize w4.heap.size = bx at *
    go_wp2_with (first
      | (go_at_call 15; refine (HD.out _ _ _ LQ.out).mono ?_; rintro e w5 ⟨A5, c5, rfl, hl, hb⟩; have L5 := Lib.hid hl; have M5 := Lib.hid (LQ.out.later hb); have B5 := Lib.hid (BQ.out.trans (hb.mono BQ.out.size)); have X5 := Lib.hid (HXb.out.below hb HXb.out.lt); have Y5 := Lib.hid (HYb.out.below hb HYb.out.lt); obtain ⟨x0, x1, x2, x3, x4, x5, x6, x7, x8, x9, x10, x11⟩ := X5.out.cd; clear hl hb)
      | (go_at_call 16; refine (HR.out _ _ _ M5.out).mono ?_; rintro e w6 ⟨A6, c6, rfl, hl, hb⟩; have R6 := Lib.hid hl; have L6 := Lib.hid (L5.out.later hb); have M6 := Lib.hid (M5.out.later hb); have B6 := Lib.hid (B5.out.trans (hb.mono B5.out.size)); have Y6 := Lib.hid (Y5.out.below hb Y5.out.lt); clear hl hb))
    clear x0 x1 x2 x3 x4 x5 x6 x7 x8 x9 x10 x11 L5 M5 B5 X5 Y5 HXb HYb LQ BQ HD HR
    have KEEP := Lib.hid (fun (W : World) (hb : Below w6.heap.size w6 W) => (fun (r : Cd12 W by_ _ _ _ _ _ _ _ _ _ _ _ _) => And.intro r.c0 (And.intro r.c1 (And.intro r.c2 (And.intro r.c3 (And.intro r.c4 (And.intro r.c5 (And.intro r.c6 (And.intro r.c7 (And.intro r.c8 (And.intro r.c9 (And.intro r.c10 r.c11))))))))))) (Y6.out.below hb Y6.out.lt).cd)
    obtain ⟨z0, z1, z2, z3, z4, z5, z6, z7, z8, z9, z10, z11⟩ := Y6.out.cd
    have e1 : IntKind.i64.wrap r = r := IntWalk.i64_in _ (by omega)
    have e2 : IntKind.i64.wrap rc = rc := IntWalk.i64_in _ (by omega)
    have e3 : IntKind.i64.wrap (m : Int) = (m : Int) := IntWalk.i64_in _ (by omega)
    have e4 : Int.tmod n 40 = (m : Int) := by rw [Int.tmod_eq_emod_of_nonneg hn.1]; exact hm
    go_region_held3 (fun W => W.cell? ⟨by_, 0, none⟩ = some (.int .u8 yn) ∧ W.cell? ⟨by_, 1, none⟩ = some (.slice none 0 0) ∧ W.cell? ⟨by_, 2, none⟩ = some (.string ⟨#[]⟩) ∧ W.cell? ⟨by_, 3, none⟩ = some (.int .i64 i1) ∧ W.cell? ⟨by_, 4, none⟩ = some (.int .i64 jx) ∧ W.cell? ⟨by_, 5, none⟩ = some (.int .i64 0) ∧ W.cell? ⟨by_, 6, none⟩ = some (.int .u8 ax) ∧ W.cell? ⟨by_, 7, none⟩ = some (.int .i64 nx) ∧ W.cell? ⟨by_, 8, none⟩ = some (.string ⟨#[]⟩) ∧ W.cell? ⟨by_, 9, none⟩ = some (.slice none 0 0) ∧ W.cell? ⟨by_, 10, none⟩ = some (.slice none 0 0) ∧ W.cell? ⟨by_, 11, none⟩ = some (.string ⟨#[]⟩))
      (first | exact KEEP.out _ HO5.out | exact KEEP.out _ HO4.out | exact KEEP.out _ HO3.out | exact KEEP.out _ HO2.out | exact KEEP.out _ HO1.out | exact KEEP.out _ (Below.refl _ _).drew)
      (first
        | (go_at_call 17; ((with_reducible refine (hsz.out _ _ _ _ _ (L6.out.later (Below.refl _ _).drew) (R6.out.later (Below.refl _ _).drew)).mono ?_); rintro e w7 ⟨rfl, hb⟩; have HO1 := Lib.hid (show Below w6.heap.size w6 w7 from (Below.refl _ _).drew.trans hb); clear hb))
        | (go_at_call 18; ((with_reducible refine (HC1.out _).mono ?_); rintro e w8 ⟨rfl, hb⟩; have HO2 := Lib.hid (HO1.out.trans (hb.mono HO1.out.size)); clear hb))
        | (go_at_call 19; ((with_reducible refine (HC2.out _).mono ?_); rintro e w9 ⟨rfl, hb⟩; have HO3 := Lib.hid (HO2.out.trans (hb.mono HO2.out.size)); clear hb))
        | (go_at_call 13; ((with_reducible refine (HN.out _).mono ?_); rintro e w10 ⟨A7, c7, rfl, hl, hb⟩; have N7 := Lib.hid (show ListIn (numsG m) A7 c7 w10 by unfold ListIn; rw [nums_len]; exact hl); have HO4 := Lib.hid (HO3.out.trans (hb.mono HO3.out.size)); clear hl hb))
        | (go_at_call 17; ((with_reducible refine (hsm.out _ _ _ _ _ (M6.out.later HO4.out) N7.out).mono ?_); rintro e w11 ⟨rfl, hb⟩; have HO5 := Lib.hid (HO4.out.trans (hb.mono HO4.out.size)); clear hb)))
    all_goals go_wp2
    all_goals go_ret
    all_goals exact ⟨rfl, B6.out.trans (HO5.out.mono B6.out.size)⟩
end Go.Proofs.Ytlgggalbngpelaa
