/- SeqMeets, the Go function: it comes out true. -/
import Derived.Test.YtlgggalbngpelaaSeqO
namespace Go.Proofs.Ytlgggalbngpelaa
open Go Go.RowKit
set_option linter.unusedVariables false
set_option linter.unusedSimpArgs false

set_option maxRecDepth 100000 in
set_option maxHeartbeats 16000000 in
theorem qmeets_row (n k1 i1' j1 m1 k2 i2 j2 m2 : Int) (left : Bool) (w : World) (hn : 0 ≤ n ∧ n ≤ 255) (hk1 : 0 ≤ k1 ∧ k1 ≤ 255) (hi1' : -9223372036854775808 ≤ i1' ∧ i1' ≤ 9223372036854775807) (hj1 : -9223372036854775808 ≤ j1 ∧ j1 ≤ 9223372036854775807) (hm1 : -9223372036854775808 ≤ m1 ∧ m1 ≤ 9223372036854775807)
    (hk2 : 0 ≤ k2 ∧ k2 ≤ 255) (hi2 : -9223372036854775808 ≤ i2 ∧ i2 ≤ 9223372036854775807) (hj2 : -9223372036854775808 ≤ j2 ∧ j2 ≤ 9223372036854775807) (hm2 : -9223372036854775808 ≤ m2 ∧ m2 ≤ 9223372036854775807) :
    Calls Try.prog 5 #[.int .u8 n, .agg #[.int .u8 k1, .int .i64 i1', .int .i64 j1, .int .i64 m1], .agg #[.int .u8 k2, .int .i64 i2, .int .i64 j2, .int .i64 m2], .bool left] w fun e w' => e = .returned (.bool true) ∧ Below w.heap.size w w' := by
  obtain ⟨m, hm, hm3⟩ : ∃ m : Nat, n % 40 = (m : Int) ∧ m ≤ 40 := ⟨(n % 40).toNat, by omega, by omega⟩
  have hlen := nums_len m
  have hlt := nums_light m
  obtain ⟨i1, hi1, hy0, hy1, hy2⟩ := info_parts infoComp
  have HI1 := Lib.hid (And.intro hi1 (And.intro hy0 (And.intro hy1 hy2)))
  have HK := Lib.hid (fun W => qknown_true W)
  have HN := Lib.hid (fun W => numbers_any m W (by omega))
  unfold ListOut at HN
  rw [hlen] at HN
  have HX := Lib.hid (fun W => in_any k1 i1' j1 m1 m W hk1 (by omega))
  have HY := Lib.hid (fun W => in_any k2 i2 j2 m2 m W hk2 (by omega))
  have hb0 := Whole.new w 35 #[.int .u8 k1, .int .i64 i1', .int .i64 j1, .int .i64 m1]
  have BXA := Lib.hid (hb0.alloc (.cells #[.int .u8 k2, .int .i64 i2, .int .i64 j2, .int .i64 m2] 35))
  have BXB := Lib.hid (show Whole ((w.alloc (.cells #[.int .u8 k1, .int .i64 i1', .int .i64 j1, .int .i64 m1] 35)).alloc (.cells #[.int .u8 k2, .int .i64 i2, .int .i64 j2, .int .i64 m2] 35)) (w.heap.size + 1) 35 #[.int .u8 k2, .int .i64 i2, .int .i64 j2, .int .i64 m2] by have := Whole.new (w.alloc (.cells #[.int .u8 k1, .int .i64 i1', .int .i64 j1, .int .i64 m1] 35)) 35 #[.int .u8 k2, .int .i64 i2, .int .i64 j2, .int .i64 m2]; rwa [World.size_alloc] at this)
  have B0 := Lib.hid (show Below w.heap.size w ((w.alloc (.cells #[.int .u8 k1, .int .i64 i1', .int .i64 j1, .int .i64 m1] 35)).alloc (.cells #[.int .u8 k2, .int .i64 i2, .int .i64 j2, .int .i64 m2] 35)) from ((Below.refl _ _).alloc (Nat.le_refl _) _).alloc (by simp) _)
  clear hb0 hi1 hy0 hy1 hy2 hk1 hi1' hj1 hm1 hk2 hi2 hj2 hm2
  go_enter Try.func5, Try.ntmps5
  go_wp2_with (first
    | (go_at_call 11; refine (HK.out _).mono ?_; rintro e w1 ⟨rfl, hb⟩; have A1 := Lib.hid (BXA.out.below hb BXA.out.lt); have C1 := Lib.hid (BXB.out.below hb BXB.out.lt); have B1 := Lib.hid (B0.out.trans (hb.mono B0.out.size)); clear hb)
    | (go_at_call 13; refine (HN.out _).mono ?_; rintro e w2 ⟨A, c, rfl, hl, hb⟩; have L2 := Lib.hid (show ListIn (numsG m) A c w2 by unfold ListIn; rw [nums_len]; exact hl); have B2 := Lib.hid (B1.out.trans (hb.mono B1.out.size)); have A2 := Lib.hid (A1.out.below hb A1.out.lt); have C2 := Lib.hid (C1.out.below hb C1.out.lt); obtain ⟨a0, a1, a2, a3⟩ := (⟨(A2.out.cell 0).trans rfl, (A2.out.cell 1).trans rfl, (A2.out.cell 2).trans rfl, (A2.out.cell 3).trans rfl⟩ : w2.cell? ⟨w.heap.size, 0, none⟩ = some (.int .u8 k1) ∧ w2.cell? ⟨w.heap.size, 1, none⟩ = some (.int .i64 i1') ∧ w2.cell? ⟨w.heap.size, 2, none⟩ = some (.int .i64 j1) ∧ w2.cell? ⟨w.heap.size, 3, none⟩ = some (.int .i64 m1)); clear hl hb)
    | (go_at_call 20; ((with_reducible refine (HX.out _).mono ?_); rintro e w3 ⟨kx, ix, jx, ax, nx, rfl, hx, hxb, hb⟩; have OX := Lib.hid (And.intro hx hxb); have L3 := Lib.hid (L2.out.later hb); have B3 := Lib.hid (B2.out.trans (hb.mono B2.out.size)); have C3 := Lib.hid (C2.out.below hb C2.out.lt); clear a0 a1 a2 a3; have a0 := fun o => cell_alloc o ((C3.out.cell 0).trans rfl : w3.cell? ⟨w.heap.size + 1, 0, none⟩ = some (.int .u8 k2)); have a1 := fun o => cell_alloc o ((C3.out.cell 1).trans rfl : w3.cell? ⟨w.heap.size + 1, 1, none⟩ = some (.int .i64 i2)); have a2 := fun o => cell_alloc o ((C3.out.cell 2).trans rfl : w3.cell? ⟨w.heap.size + 1, 2, none⟩ = some (.int .i64 j2)); have a3 := fun o => cell_alloc o ((C3.out.cell 3).trans rfl : w3.cell? ⟨w.heap.size + 1, 3, none⟩ = some (.int .i64 m2)); clear hx hxb hb))
    | (go_at_call 20; ((with_reducible refine (HY.out _).mono ?_); rintro e w4 ⟨ky, iy, jy, ay, ny, rfl, hy, hyb, hb⟩; have OY := Lib.hid (And.intro hy hyb); have L4 := Lib.hid ((L3.out.later (below_alloc _ _)).later hb); have B4 := Lib.hid ((B3.out.alloc B3.out.size _).trans (hb.mono (by simp; have := B3.out.size; omega))); have X4 := Lib.hid ((Whole.new w3 29 #[.int .u8 kx, .slice none 0 0, .string ⟨#[]⟩, .int .i64 ix, .int .i64 jx, .int .i64 0, .int .u8 ax, .int .i64 nx, .string ⟨#[]⟩, .slice none 0 0, .slice none 0 0, .string ⟨#[]⟩]).below hb (by simp)); clear a0 a1 a2 a3 hy hyb hb)))
  have HXb := Lib.hid (X4.out.alloc (.cells #[.int .u8 ky, .slice none 0 0, .string ⟨#[]⟩, .int .i64 iy, .int .i64 jy, .int .i64 0, .int .u8 ay, .int .i64 ny, .string ⟨#[]⟩, .slice none 0 0, .slice none 0 0, .string ⟨#[]⟩] 29))
  have HYb := Lib.hid (Whole.new w4 29 #[.int .u8 ky, .slice none 0 0, .string ⟨#[]⟩, .int .i64 iy, .int .i64 jy, .int .i64 0, .int .u8 ay, .int .i64 ny, .string ⟨#[]⟩, .slice none 0 0, .slice none 0 0, .string ⟨#[]⟩])
  have LQ := Lib.hid (L4.out.later (below_alloc w4 (.cells #[.int .u8 ky, .slice none 0 0, .string ⟨#[]⟩, .int .i64 iy, .int .i64 jy, .int .i64 0, .int .u8 ay, .int .i64 ny, .string ⟨#[]⟩, .slice none 0 0, .slice none 0 0, .string ⟨#[]⟩] 29)))
  have BQ := Lib.hid (B4.out.alloc B4.out.size (.cells #[.int .u8 ky, .slice none 0 0, .string ⟨#[]⟩, .int .i64 iy, .int .i64 jy, .int .i64 0, .int .u8 ay, .int .i64 ny, .string ⟨#[]⟩, .slice none 0 0, .slice none 0 0, .string ⟨#[]⟩] 29))
  obtain ⟨wq, hwq⟩ : ∃ W, W = w4.alloc (.cells #[.int .u8 ky, .slice none 0 0, .string ⟨#[]⟩, .int .i64 iy, .int .i64 jy, .int .i64 0, .int .u8 ay, .int .i64 ny, .string ⟨#[]⟩, .slice none 0 0, .slice none 0 0, .string ⟨#[]⟩] 29) := ⟨_, rfl⟩
  rw [← hwq] at HXb HYb LQ BQ ⊢
  clear hwq X4 L4 B4 L3 B3 L2 B2 C2 A2 A1 C1 B1 C3 BXA BXB B0
  generalize w3.heap.size = bx at *
  generalize w4.heap.size = by_ at *
  have oX := OX.out
  have oY := OY.out
  have hlX : okC (numsG m).length (⟨kx, ix, jx, flat ax nx⟩ : Cm GV) := by rw [hlen]; exact oX.1
  have hlY : okC (numsG m).length (⟨ky, iy, jy, flat ay ny⟩ : Cm GV) := by rw [hlen]; exact oY.1
  have t1 := turn_ok hlX hlY left
  have t2 := turn_ok hlY hlX (!left)
  rw [← do_len hlY] at t1
  rw [← do_len hlX] at t2
  have hmeet := meets hlX hlY left
  have f1 : ∀ c ∈ (turnG ⟨ky, iy, jy, flat ay ny⟩ ⟨kx, ix, jx, flat ax nx⟩ (!left)).toList, ∃ a m, c.v = flat a m := fun c hc => ⟨ay, ny, turn_v (by simpa using hc)⟩
  have f2 : ∀ c ∈ (turnG ⟨kx, ix, jx, flat ax nx⟩ ⟨ky, iy, jy, flat ay ny⟩ left).toList, ∃ a m, c.v = flat a m := fun c hc => ⟨ax, nx, turn_v (by simpa using hc)⟩
  have q1 := okAll_turn hlt (by omega) hlX (by rw [flat_weight]; omega) t2 (fun c h => by rw [turn_v h, flat_weight]; omega)
  have q2 := okAll_turn hlt (by omega) hlY (by rw [flat_weight]; omega) t1 (fun c h => by rw [turn_v h, flat_weight]; omega)
  have T1 := Lib.hid (fun W => turn_list ky iy jy kx ix jx ay ny ax nx (!left) W (by omega) (by omega) (by omega) (by omega))
  have T2 := Lib.hid (fun W => turn_list kx ix jx ky iy jy ax nx ay ny left W (by omega) (by omega) (by omega) (by omega))
  have e1 := run_turn (l := numsG m) (x := ⟨kx, ix, jx, flat ax nx⟩) (r := turnG ⟨ky, iy, jy, flat ay ny⟩ ⟨kx, ix, jx, flat ax nx⟩ (!left))
  have e2 := run_turn (l := numsG m) (x := ⟨ky, iy, jy, flat ay ny⟩) (r := turnG ⟨kx, ix, jx, flat ax nx⟩ ⟨ky, iy, jy, flat ay ny⟩ left)
  rw [hmeet] at e1
  have g1l : (turnG ⟨ky, iy, jy, flat ay ny⟩ ⟨kx, ix, jx, flat ax nx⟩ (!left)).toList.length ≤ 1 := by cases turnG ⟨ky, iy, jy, flat ay ny⟩ ⟨kx, ix, jx, flat ax nx⟩ (!left) <;> simp
  have g2l : (turnG ⟨kx, ix, jx, flat ax nx⟩ ⟨ky, iy, jy, flat ay ny⟩ left).toList.length ≤ 1 := by cases turnG ⟨kx, ix, jx, flat ax nx⟩ ⟨ky, iy, jy, flat ay ny⟩ left <;> simp
  have hd1 := fun (W : World) A c g cc (h : ListIn (numsG m) A c W) hn hc hcs => law_done A c (numsG m) (⟨kx, ix, jx, flat ax nx⟩ :: (turnG ⟨ky, iy, jy, flat ay ny⟩ ⟨kx, ix, jx, flat ax nx⟩ (!left)).toList) g 0 cc W h hn hc hcs q1
  have hd2 := fun (W : World) A c g cc (h : ListIn (numsG m) A c W) hn hc hcs => law_done A c (numsG m) (⟨ky, iy, jy, flat ay ny⟩ :: (turnG ⟨kx, ix, jx, flat ax nx⟩ ⟨ky, iy, jy, flat ay ny⟩ left).toList) g 0 cc W h hn hc hcs q2
  have hwz : Light (doLs (doL (numsG m) ⟨ky, iy, jy, flat ay ny⟩) (turnG ⟨kx, ix, jx, flat ax nx⟩ ⟨ky, iy, jy, flat ay ny⟩ left)) := by
    have h0 := do_light (c := ⟨ky, iy, jy, flat ay ny⟩) hlt (by rw [flat_weight]; omega)
    cases ht : turnG ⟨kx, ix, jx, flat ax nx⟩ ⟨ky, iy, jy, flat ay ny⟩ left with
    | none => exact h0
    | some c => exact do_light h0 (by rw [turn_v ht, flat_weight]; omega)
  have hwl : (doLs (doL (numsG m) ⟨ky, iy, jy, flat ay ny⟩) (turnG ⟨kx, ix, jx, flat ax nx⟩ ⟨ky, iy, jy, flat ay ny⟩ left)).length ≤ 1000 := by
    have l1 := do_len hlY
    have b1 : (doL (numsG m) ⟨ky, iy, jy, flat ay ny⟩).length ≤ 41 := by rw [l1]; split <;> (try split) <;> omega
    cases ht : turnG ⟨kx, ix, jx, flat ax nx⟩ ⟨ky, iy, jy, flat ay ny⟩ left with
    | none => simp only [doLs]; omega
    | some c => rw [ht] at t1; have l2 := do_len (show okC _ c from t1); simp only [doLs]; rw [l2]; split <;> (try split) <;> omega
  rw [e1] at hd1
  rw [e2] at hd2
  clear e1 e2 hmeet t1 t2 q1 q2 hlX hlY oX oY OX OY
  generalize doLs (doL (numsG m) ⟨ky, iy, jy, flat ay ny⟩) (turnG ⟨kx, ix, jx, flat ax nx⟩ ⟨ky, iy, jy, flat ay ny⟩ left) = lz at *
  generalize (turnG ⟨kx, ix, jx, flat ax nx⟩ ⟨ky, iy, jy, flat ay ny⟩ left).toList = cs2 at *
  generalize (turnG ⟨ky, iy, jy, flat ay ny⟩ ⟨kx, ix, jx, flat ax nx⟩ (!left)).toList = cs1 at *
  have HSM := Lib.hid (fun (W : World) A c A' c' (h : ListIn lz A c W) (h' : ListIn lz A' c' W) => same_list h h' (by have := nums_weight _ hwz; omega))
  simp only [hlen, List.length_cons] at hd1 hd2
  have D1 := Lib.hid hd1
  have D2 := Lib.hid hd2
  have E1F := Lib.hid f1
  have E2F := Lib.hid f2
  clear f1 f2
  have E1L := Lib.hid g1l
  have E2L := Lib.hid g2l
  have E1X := Lib.hid (fun W => (show RowC W [(⟨kx, ix, jx, flat ax nx⟩ : Cm GV)] [.int .u8 kx, .slice none 0 0, .string ⟨#[]⟩, .int .i64 ix, .int .i64 jx, .int .i64 0, .int .u8 ax, .int .i64 nx, .string ⟨#[]⟩, .slice none 0 0, .slice none 0 0, .string ⟨#[]⟩] from ⟨none, none, 0, 0, [], rfl, vl_flat _ _ _, rfl⟩))
  have E2X := Lib.hid (fun W => (show RowC W [(⟨ky, iy, jy, flat ay ny⟩ : Cm GV)] [.int .u8 ky, .slice none 0 0, .string ⟨#[]⟩, .int .i64 iy, .int .i64 jy, .int .i64 0, .int .u8 ay, .int .i64 ny, .string ⟨#[]⟩, .slice none 0 0, .slice none 0 0, .string ⟨#[]⟩] from ⟨none, none, 0, 0, [], rfl, vl_flat _ _ _, rfl⟩))
  clear hd1 hd2 g1l g2l hwz hwl hlen hlt
  have KEEP := Lib.hid (fun (W : World) (hb : Below wq.heap.size wq W) => (fun (q : Cd12 W bx _ _ _ _ _ _ _ _ _ _ _ _) (r : Cd12 W by_ _ _ _ _ _ _ _ _ _ _ _ _) => And.intro q.c0 (And.intro q.c1 (And.intro q.c2 (And.intro q.c3 (And.intro q.c4 (And.intro q.c5 (And.intro q.c6 (And.intro q.c7 (And.intro q.c8 (And.intro q.c9 (And.intro q.c10 (And.intro q.c11 (And.intro r.c0 (And.intro r.c1 (And.intro r.c2 (And.intro r.c3 (And.intro r.c4 (And.intro r.c5 (And.intro r.c6 (And.intro r.c7 (And.intro r.c8 (And.intro r.c9 (And.intro r.c10 r.c11))))))))))))))))))))))) (HXb.out.below hb HXb.out.lt).cd (HYb.out.below hb HYb.out.lt).cd)
  obtain ⟨x0, x1, x2, x3, x4, x5, x6, x7, x8, x9, x10, x11⟩ := HXb.out.cd
  obtain ⟨z0, z1, z2, z3, z4, z5, z6, z7, z8, z9, z10, z11⟩ := HYb.out.cd

  go_cut [12, 13] (CutD wq lz)
  case first =>
    go_region_held3 (fun W => W.cell? ⟨bx, 0, none⟩ = some (.int .u8 kx) ∧ W.cell? ⟨bx, 1, none⟩ = some (.slice none 0 0) ∧ W.cell? ⟨bx, 2, none⟩ = some (.string ⟨#[]⟩) ∧ W.cell? ⟨bx, 3, none⟩ = some (.int .i64 ix) ∧ W.cell? ⟨bx, 4, none⟩ = some (.int .i64 jx) ∧ W.cell? ⟨bx, 5, none⟩ = some (.int .i64 0) ∧ W.cell? ⟨bx, 6, none⟩ = some (.int .u8 ax) ∧ W.cell? ⟨bx, 7, none⟩ = some (.int .i64 nx) ∧ W.cell? ⟨bx, 8, none⟩ = some (.string ⟨#[]⟩) ∧ W.cell? ⟨bx, 9, none⟩ = some (.slice none 0 0) ∧ W.cell? ⟨bx, 10, none⟩ = some (.slice none 0 0) ∧ W.cell? ⟨bx, 11, none⟩ = some (.string ⟨#[]⟩) ∧ W.cell? ⟨by_, 0, none⟩ = some (.int .u8 ky) ∧ W.cell? ⟨by_, 1, none⟩ = some (.slice none 0 0) ∧ W.cell? ⟨by_, 2, none⟩ = some (.string ⟨#[]⟩) ∧ W.cell? ⟨by_, 3, none⟩ = some (.int .i64 iy) ∧ W.cell? ⟨by_, 4, none⟩ = some (.int .i64 jy) ∧ W.cell? ⟨by_, 5, none⟩ = some (.int .i64 0) ∧ W.cell? ⟨by_, 6, none⟩ = some (.int .u8 ay) ∧ W.cell? ⟨by_, 7, none⟩ = some (.int .i64 ny) ∧ W.cell? ⟨by_, 8, none⟩ = some (.string ⟨#[]⟩) ∧ W.cell? ⟨by_, 9, none⟩ = some (.slice none 0 0) ∧ W.cell? ⟨by_, 10, none⟩ = some (.slice none 0 0) ∧ W.cell? ⟨by_, 11, none⟩ = some (.string ⟨#[]⟩))
      (first | exact KEEP.out _ B9.out | exact KEEP.out _ B6.out | exact KEEP.out _ B5.out | exact KEEP.out _ (B5.out.trans ((below_alloc _ _).mono B5.out.size)) | exact KEEP.out _ (below_alloc _ _).drew | exact KEEP.out _ (Below.refl _ _).drew)
      (first
        | (go_at_call 10; ((with_reducible refine (T1.out _).mono ?_); rintro e w5 ⟨A5, news, rfl, hA, hn, hr, hb⟩; have B5 := Lib.hid ((show Below wq.heap.size wq (wq.alloc (.cells #[.int .u8 kx, .slice none 0 0, .string ⟨#[]⟩, .int .i64 ix, .int .i64 jx, .int .i64 0, .int .u8 ax, .int .i64 nx, .string ⟨#[]⟩, .slice none 0 0, .slice none 0 0, .string ⟨#[]⟩] 29)).drew from (below_alloc _ _).drew).trans (hb.mono (by simp))); have O5 := Lib.hid (own_below (show (wq.alloc (.cells #[.int .u8 kx, .slice none 0 0, .string ⟨#[]⟩, .int .i64 ix, .int .i64 jx, .int .i64 0, .int .u8 ax, .int .i64 nx, .string ⟨#[]⟩, .slice none 0 0, .slice none 0 0, .string ⟨#[]⟩] 29)).drew.ownsRow wq.heap.size 29 12 (.slice (some ⟨wq.heap.size, 0, none⟩) 1 1) 1 [.int .u8 kx, .slice none 0 0, .string ⟨#[]⟩, .int .i64 ix, .int .i64 jx, .int .i64 0, .int .u8 ax, .int .i64 nx, .string ⟨#[]⟩, .slice none 0 0, .slice none 0 0, .string ⟨#[]⟩] from own_new wq [.int .u8 kx, .slice none 0 0, .string ⟨#[]⟩, .int .i64 ix, .int .i64 jx, .int .i64 0, .int .u8 ax, .int .i64 nx, .string ⟨#[]⟩, .slice none 0 0, .slice none 0 0, .string ⟨#[]⟩] rfl) hb); have R5 := Lib.hid (And.intro hA (And.intro hn hr)); clear hA hn hr hb))
        | (go_at_call 10; ((with_reducible refine (T1.out _).mono ?_); rintro e w5 ⟨A5, news, rfl, hA, hn, hr, hb⟩; have B5 := Lib.hid ((show Below wq.heap.size wq wq.drew from (Below.refl _ _).drew).trans hb); have O5 := Lib.hid (own_mono (own_new w5 [.int .u8 kx, .slice none 0 0, .string ⟨#[]⟩, .int .i64 ix, .int .i64 jx, .int .i64 0, .int .u8 ax, .int .i64 nx, .string ⟨#[]⟩, .slice none 0 0, .slice none 0 0, .string ⟨#[]⟩] rfl) B5.out.size); have R5 := Lib.hid (And.intro hA (And.intro (fun ad e j u hj => keepq (below_alloc w5 (.cells #[.int .u8 kx, .slice none 0 0, .string ⟨#[]⟩, .int .i64 ix, .int .i64 jx, .int .i64 0, .int .u8 ax, .int .i64 nx, .string ⟨#[]⟩, .slice none 0 0, .slice none 0 0, .string ⟨#[]⟩] 29)) (hn ad e j u hj)) (hr.later (below_alloc w5 (.cells #[.int .u8 kx, .slice none 0 0, .string ⟨#[]⟩, .int .i64 ix, .int .i64 jx, .int .i64 0, .int .u8 ax, .int .i64 nx, .string ⟨#[]⟩, .slice none 0 0, .slice none 0 0, .string ⟨#[]⟩] 29))))); clear hA hn hr hb))
        | (refine step_append_from rfl (.tmp 33) (.tmp 38) 30 rfl wq.heap.size 29 i1 _ 12 168 Try.underlying30 HI1.out.1 HI1.out.2.1 HI1.out.2.2.1 HI1.out.2.2.2 rfl (by decide) _ 1 [.int .u8 kx, .slice none 0 0, .string ⟨#[]⟩, .int .i64 ix, .int .i64 jx, .int .i64 0, .int .u8 ax, .int .i64 nx, .string ⟨#[]⟩, .slice none 0 0, .slice none 0 0, .string ⟨#[]⟩] rfl O5.out A5 _ _ news rfl R5.out.1 R5.out.2.2.len R5.out.2.1 R5.out.2.2.one (by unfold maxLen; have := E1L.out; omega) (by have := E1L.out; omega) (by first | exact B5.out.size | exact Nat.le_trans B5.out.size (by simp)) ?_; intro v6 w6 hown6 hgrow6; have B6 := Lib.hid (show Below wq.heap.size wq w6 from (by first | exact B5.out.grown hgrow6 B5.out.size (fun k hk => (O5.out.lt k hk).1) | exact (B5.out.trans ((below_alloc _ _).mono B5.out.size)).grown hgrow6 (Nat.le_trans B5.out.size (by simp)) (fun k hk => (O5.out.lt k hk).1))); have G6 := Lib.hid (comps_grown O5.out hgrow6 E1F.out R5.out.2.2); rw [Nat.add_comm] at hown6; obtain ⟨g6, c6, rfl, hn6, hm6, hc6⟩ := ownc_at hown6; have H6 := Lib.hid (And.intro hn6 (And.intro hm6 hc6)); clear hown6 hgrow6 hn6 hm6 hc6)
        | (go_at_call 21; refine (D1.out w6 _ _ g6 c6 (LQ.out.later B6.out) H6.out.1 H6.out.2.1 (RowC.at (o := 0) (RowC.app (E1X.out w6) G6.out) H6.out.2.2)).mono ?_; rintro e w9 ⟨A9, c9, rfl, hl, hb⟩; have L9 := Lib.hid hl; have B9 := Lib.hid (B6.out.trans (hb.mono B6.out.size)); clear hl hb))
    all_goals go_wp2_with fail
    all_goals go_meet
    all_goals exact ⟨A9, c9, rfl, rfl, L9.out, B9.out⟩
  case rest =>
    obtain ⟨A7, c7, rfl, rfl, hL7, hB7⟩ := hcut
    have L7 := Lib.hid hL7
    have LC := Lib.hid (LQ.out.later hB7)
    have BC := Lib.hid (BQ.out.trans (hB7.mono BQ.out.size))
    have XC := Lib.hid (HXb.out.below hB7 HXb.out.lt)
    have YC := Lib.hid (HYb.out.below hB7 HYb.out.lt)
    clear hL7 hB7 KEEP x0 x1 x2 x3 x4 x5 x6 x7 x8 x9 x10 x11 z0 z1 z2 z3 z4 z5 z6 z7 z8 z9 z10 z11
    have KEEP := Lib.hid (fun (W : World) (hb : Below wc.heap.size wc W) => (fun (q : Cd12 W bx _ _ _ _ _ _ _ _ _ _ _ _) (r : Cd12 W by_ _ _ _ _ _ _ _ _ _ _ _ _) => And.intro q.c0 (And.intro q.c1 (And.intro q.c2 (And.intro q.c3 (And.intro q.c4 (And.intro q.c5 (And.intro q.c6 (And.intro q.c7 (And.intro q.c8 (And.intro q.c9 (And.intro q.c10 (And.intro q.c11 (And.intro r.c0 (And.intro r.c1 (And.intro r.c2 (And.intro r.c3 (And.intro r.c4 (And.intro r.c5 (And.intro r.c6 (And.intro r.c7 (And.intro r.c8 (And.intro r.c9 (And.intro r.c10 r.c11))))))))))))))))))))))) (XC.out.below hb XC.out.lt).cd (YC.out.below hb YC.out.lt).cd)
    obtain ⟨x0, x1, x2, x3, x4, x5, x6, x7, x8, x9, x10, x11⟩ := XC.out.cd
    obtain ⟨z0, z1, z2, z3, z4, z5, z6, z7, z8, z9, z10, z11⟩ := YC.out.cd
    go_wp2_with fail
    go_cut [14, 15] (CutD wc lz)
    case first =>
      go_region_held3 (fun W => W.cell? ⟨bx, 0, none⟩ = some (.int .u8 kx) ∧ W.cell? ⟨bx, 1, none⟩ = some (.slice none 0 0) ∧ W.cell? ⟨bx, 2, none⟩ = some (.string ⟨#[]⟩) ∧ W.cell? ⟨bx, 3, none⟩ = some (.int .i64 ix) ∧ W.cell? ⟨bx, 4, none⟩ = some (.int .i64 jx) ∧ W.cell? ⟨bx, 5, none⟩ = some (.int .i64 0) ∧ W.cell? ⟨bx, 6, none⟩ = some (.int .u8 ax) ∧ W.cell? ⟨bx, 7, none⟩ = some (.int .i64 nx) ∧ W.cell? ⟨bx, 8, none⟩ = some (.string ⟨#[]⟩) ∧ W.cell? ⟨bx, 9, none⟩ = some (.slice none 0 0) ∧ W.cell? ⟨bx, 10, none⟩ = some (.slice none 0 0) ∧ W.cell? ⟨bx, 11, none⟩ = some (.string ⟨#[]⟩) ∧ W.cell? ⟨by_, 0, none⟩ = some (.int .u8 ky) ∧ W.cell? ⟨by_, 1, none⟩ = some (.slice none 0 0) ∧ W.cell? ⟨by_, 2, none⟩ = some (.string ⟨#[]⟩) ∧ W.cell? ⟨by_, 3, none⟩ = some (.int .i64 iy) ∧ W.cell? ⟨by_, 4, none⟩ = some (.int .i64 jy) ∧ W.cell? ⟨by_, 5, none⟩ = some (.int .i64 0) ∧ W.cell? ⟨by_, 6, none⟩ = some (.int .u8 ay) ∧ W.cell? ⟨by_, 7, none⟩ = some (.int .i64 ny) ∧ W.cell? ⟨by_, 8, none⟩ = some (.string ⟨#[]⟩) ∧ W.cell? ⟨by_, 9, none⟩ = some (.slice none 0 0) ∧ W.cell? ⟨by_, 10, none⟩ = some (.slice none 0 0) ∧ W.cell? ⟨by_, 11, none⟩ = some (.string ⟨#[]⟩))
        (first | exact KEEP.out _ B9.out | exact KEEP.out _ B6.out | exact KEEP.out _ B5.out | exact KEEP.out _ (B5.out.trans ((below_alloc _ _).mono B5.out.size)) | exact KEEP.out _ (below_alloc _ _).drew | exact KEEP.out _ (Below.refl _ _).drew)
        (first
          | (go_at_call 10; ((with_reducible refine (T2.out _).mono ?_); rintro e w5 ⟨A5, news, rfl, hA, hn, hr, hb⟩; have B5 := Lib.hid ((show Below wc.heap.size wc (wc.alloc (.cells #[.int .u8 ky, .slice none 0 0, .string ⟨#[]⟩, .int .i64 iy, .int .i64 jy, .int .i64 0, .int .u8 ay, .int .i64 ny, .string ⟨#[]⟩, .slice none 0 0, .slice none 0 0, .string ⟨#[]⟩] 29)).drew from (below_alloc _ _).drew).trans (hb.mono (by simp))); have O5 := Lib.hid (own_below (show (wc.alloc (.cells #[.int .u8 ky, .slice none 0 0, .string ⟨#[]⟩, .int .i64 iy, .int .i64 jy, .int .i64 0, .int .u8 ay, .int .i64 ny, .string ⟨#[]⟩, .slice none 0 0, .slice none 0 0, .string ⟨#[]⟩] 29)).drew.ownsRow wc.heap.size 29 12 (.slice (some ⟨wc.heap.size, 0, none⟩) 1 1) 1 [.int .u8 ky, .slice none 0 0, .string ⟨#[]⟩, .int .i64 iy, .int .i64 jy, .int .i64 0, .int .u8 ay, .int .i64 ny, .string ⟨#[]⟩, .slice none 0 0, .slice none 0 0, .string ⟨#[]⟩] from own_new wc [.int .u8 ky, .slice none 0 0, .string ⟨#[]⟩, .int .i64 iy, .int .i64 jy, .int .i64 0, .int .u8 ay, .int .i64 ny, .string ⟨#[]⟩, .slice none 0 0, .slice none 0 0, .string ⟨#[]⟩] rfl) hb); have R5 := Lib.hid (And.intro hA (And.intro hn hr)); clear hA hn hr hb))
          | (go_at_call 10; ((with_reducible refine (T2.out _).mono ?_); rintro e w5 ⟨A5, news, rfl, hA, hn, hr, hb⟩; have B5 := Lib.hid ((show Below wc.heap.size wc wc.drew from (Below.refl _ _).drew).trans hb); have O5 := Lib.hid (own_mono (own_new w5 [.int .u8 ky, .slice none 0 0, .string ⟨#[]⟩, .int .i64 iy, .int .i64 jy, .int .i64 0, .int .u8 ay, .int .i64 ny, .string ⟨#[]⟩, .slice none 0 0, .slice none 0 0, .string ⟨#[]⟩] rfl) B5.out.size); have R5 := Lib.hid (And.intro hA (And.intro (fun ad e j u hj => keepq (below_alloc w5 (.cells #[.int .u8 ky, .slice none 0 0, .string ⟨#[]⟩, .int .i64 iy, .int .i64 jy, .int .i64 0, .int .u8 ay, .int .i64 ny, .string ⟨#[]⟩, .slice none 0 0, .slice none 0 0, .string ⟨#[]⟩] 29)) (hn ad e j u hj)) (hr.later (below_alloc w5 (.cells #[.int .u8 ky, .slice none 0 0, .string ⟨#[]⟩, .int .i64 iy, .int .i64 jy, .int .i64 0, .int .u8 ay, .int .i64 ny, .string ⟨#[]⟩, .slice none 0 0, .slice none 0 0, .string ⟨#[]⟩] 29))))); clear hA hn hr hb))
          | (refine step_append_from rfl (.tmp 46) (.tmp 50) 30 rfl wc.heap.size 29 i1 _ 12 168 Try.underlying30 HI1.out.1 HI1.out.2.1 HI1.out.2.2.1 HI1.out.2.2.2 rfl (by decide) _ 1 [.int .u8 ky, .slice none 0 0, .string ⟨#[]⟩, .int .i64 iy, .int .i64 jy, .int .i64 0, .int .u8 ay, .int .i64 ny, .string ⟨#[]⟩, .slice none 0 0, .slice none 0 0, .string ⟨#[]⟩] rfl O5.out A5 _ _ news rfl R5.out.1 R5.out.2.2.len R5.out.2.1 R5.out.2.2.one (by unfold maxLen; have := E2L.out; omega) (by have := E2L.out; omega) (by first | exact B5.out.size | exact Nat.le_trans B5.out.size (by simp)) ?_; intro v6 w6 hown6 hgrow6; have B6 := Lib.hid (show Below wc.heap.size wc w6 from (by first | exact B5.out.grown hgrow6 B5.out.size (fun k hk => (O5.out.lt k hk).1) | exact (B5.out.trans ((below_alloc _ _).mono B5.out.size)).grown hgrow6 (Nat.le_trans B5.out.size (by simp)) (fun k hk => (O5.out.lt k hk).1))); have G6 := Lib.hid (comps_grown O5.out hgrow6 E2F.out R5.out.2.2); rw [Nat.add_comm] at hown6; obtain ⟨g6, c6, rfl, hn6, hm6, hc6⟩ := ownc_at hown6; have H6 := Lib.hid (And.intro hn6 (And.intro hm6 hc6)); clear hown6 hgrow6 hn6 hm6 hc6)
          | (go_at_call 21; refine (D2.out w6 _ _ g6 c6 (LC.out.later B6.out) H6.out.1 H6.out.2.1 (RowC.at (o := 0) (RowC.app (E2X.out w6) G6.out) H6.out.2.2)).mono ?_; rintro e w9 ⟨A9, c9, rfl, hl, hb⟩; have L9 := Lib.hid hl; have B9 := Lib.hid (B6.out.trans (hb.mono B6.out.size)); clear hl hb))
      all_goals go_wp2_with fail
      all_goals go_meet
      all_goals exact ⟨A9, c9, rfl, rfl, L9.out, B9.out⟩
    case rest =>
      obtain ⟨A8, c8, rfl, rfl, hL8, hB8⟩ := hcut
      have L8 := Lib.hid hL8
      have M8 := Lib.hid (L7.out.later hB8)
      have B8 := Lib.hid (BC.out.trans (hB8.mono BC.out.size))
      clear hL8 hB8 x0 x1 x2 x3 x4 x5 x6 x7 x8 x9 x10 x11 z0 z1 z2 z3 z4 z5 z6 z7 z8 z9 z10 z11
      go_wp2_with (go_at_call 17; refine (HSM.out _ _ _ _ _ M8.out L8.out).mono ?_; rintro e w9 ⟨rfl, hb⟩; have BZ := Lib.hid (B8.out.trans (hb.mono B8.out.size)); clear hb)
      go_ret
      exact ⟨rfl, BZ.out⟩
end Go.Proofs.Ytlgggalbngpelaa
