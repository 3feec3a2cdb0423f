/- SeqTies, the Go function: it comes out true. -/
import Derived.Test.YtlgggalbngpelaaSeqO
namespace Go.Proofs.Ytlgggalbngpelaa
open Go Go.RowKit
set_option linter.unusedVariables false
set_option linter.unusedSimpArgs false

set_option maxRecDepth 100000 in
set_option maxHeartbeats 8000000 in
theorem qties_true (n i : Int) (w : World) (hn : 0 ≤ n ∧ n ≤ 255) : Calls Try.prog 9 #[.int .u8 n, .int .i64 i, .bool true] w fun e w' => e = .returned (.bool true) ∧ Below w.heap.size w w' := by
  obtain ⟨m, hm, hm3⟩ : ∃ m : Nat, n % 40 = (m : Int) ∧ m ≤ 40 := ⟨(n % 40).toNat, by omega, by omega⟩
  obtain ⟨k, hk', hkm⟩ := mod_nat i (m + 1) (by omega)
  have hk : max i 0 % ((m : Int) + 1) = (k : Int) := hk'
  clear hk'
  have hlen := nums_len m
  have hlt := nums_light m
  obtain ⟨i1, hi1, hy0, hy1, hy2⟩ := info_parts infoComp
  have HI1 := Lib.hid (And.intro hi1 (And.intro hy0 (And.intro hy1 hy2)))
  have HK := Lib.hid (fun W => qknown_true W)
  have HN := Lib.hid (fun W => numbers_any m W (by omega))
  unfold ListOut at HN
  rw [hlen] at HN
  have hok : okC (numsG m).length (⟨4, k, 0, flat 2 2⟩ : Cm GV) := .inl ⟨rfl, by rw [hlen]; simp only; omega⟩
  have hl1 := do_len hok
  simp only [if_true] at hl1
  have hok2 : okC (doL (numsG m) ⟨4, k, 0, flat 2 2⟩).length (⟨4, k, 0, flat 2 1⟩ : Cm GV) := .inl ⟨rfl, by rw [hl1, hlen]; simp only; omega⟩
  have q1 : okAll (numsG m) [⟨4, k, 0, flat 2 2⟩, ⟨4, k, 0, flat 2 1⟩] := okAll_two hlt (by omega) hok hok2 (by rw [flat_weight]; omega) (by rw [flat_weight]; omega)
  have T1 := Lib.hid (show ∀ W, Calls Try.prog 10 #[.agg #[.int .u8 4, .slice none 0 0, .string ⟨#[]⟩, .int .i64 k, .int .i64 0, .int .i64 0, .int .u8 2, .int .i64 1, .string ⟨#[]⟩, .slice none 0 0, .slice none 0 0, .string ⟨#[]⟩], .agg #[.int .u8 4, .slice none 0 0, .string ⟨#[]⟩, .int .i64 k, .int .i64 0, .int .i64 0, .int .u8 2, .int .i64 2, .string ⟨#[]⟩, .slice none 0 0, .slice none 0 0, .string ⟨#[]⟩], .bool true] W (TurnL [⟨4, k, 0, flat 2 1⟩] W) from fun W => turn_list 4 k 0 4 k 0 2 1 2 2 true W (by omega) (by omega) (by omega) (by omega) |>.mono fun e w' h => by
    have e0 : (turnG (⟨4, k, 0, flat 2 1⟩ : Cm GV) ⟨4, k, 0, flat 2 2⟩ true).toList = [⟨4, k, 0, flat 2 1⟩] := by simp [turnG, listK, gapN, moreN]
    rw [e0] at h
    exact h)
  have D1 := fun (W : World) A c g cc (h : ListIn (numsG m) A c W) hn hc hcs => law_done A c (numsG m) [⟨4, k, 0, flat 2 2⟩, ⟨4, k, 0, flat 2 1⟩] g 0 cc W h hn hc hcs q1
  have E1L := Lib.hid (Nat.le_refl 1)
  have E1F := Lib.hid (show ∀ c ∈ [(⟨4, k, 0, flat 2 1⟩ : Cm GV)], ∃ a m, c.v = flat a m from fun c hc => ⟨2, 1, by simp only [List.mem_singleton] at hc; rw [hc]⟩)
  have E1X := Lib.hid (fun W => (show RowC W [(⟨4, k, 0, flat 2 2⟩ : Cm GV)] [.int .u8 4, .slice none 0 0, .string ⟨#[]⟩, .int .i64 k, .int .i64 0, .int .i64 0, .int .u8 2, .int .i64 2, .string ⟨#[]⟩, .slice none 0 0, .slice none 0 0, .string ⟨#[]⟩] from ⟨none, none, 0, 0, [], rfl, vl_flat _ _ _, rfl⟩))
  have hz1 : (runL (numsG m) [⟨4, k, 0, flat 2 2⟩, ⟨4, k, 0, flat 2 1⟩]).length = m + 2 := by
    have h2 := do_len hok2
    simp only [if_true] at h2
    simp only [runL, List.foldl_cons, List.foldl_nil]
    rw [h2, hl1, hlen]
  have hga := fun t => do_get hok2 t
  have hgb := fun t => do_get hok t
  simp only [if_true] at hga hgb
  have HZ := Lib.hid (And.intro hz1 (And.intro (show (runL (numsG m) [⟨4, k, 0, flat 2 2⟩, ⟨4, k, 0, flat 2 1⟩])[k]? = some (numG 1) by simp only [runL, List.foldl_cons, List.foldl_nil]; rw [hga]; rw [if_neg (by omega), if_pos rfl]; rfl) (show (runL (numsG m) [⟨4, k, 0, flat 2 2⟩, ⟨4, k, 0, flat 2 1⟩])[k + 1]? = some (numG 2) by simp only [runL, List.foldl_cons, List.foldl_nil]; rw [hga]; rw [if_neg (by omega), if_neg (by omega), Nat.add_sub_cancel, hgb, if_neg (by omega), if_pos rfl]; rfl)))
  clear hi1 hy0 hy1 hy2 hok hok2 hl1 q1 hz1 hga hgb hlt
  generalize runL (numsG m) [⟨4, k, 0, flat 2 2⟩, ⟨4, k, 0, flat 2 1⟩] = lz at *
  simp only [hlen] at D1
  replace D1 := Lib.hid D1
  clear hlen
  go_enter Try.func9, Try.ntmps9
  go_wp2_with (first
    | (go_at_call 11; refine (HK.out _).mono ?_; rintro e w1 ⟨rfl, hb⟩; have B1 := Lib.hid hb; clear hb)
    | (go_at_call 13; refine (HN.out _).mono ?_; rintro e w2 ⟨A, c, rfl, hl, hb⟩; have L2 := Lib.hid (show ListIn (numsG m) A c w2 by unfold ListIn; rw [nums_len]; exact hl); have B2 := Lib.hid (B1.out.trans (hb.mono B1.out.size)); clear hl hb))
  have HXb := Lib.hid ((Whole.new w2 29 #[.int .u8 4, .slice none 0 0, .string ⟨#[]⟩, .int .i64 k, .int .i64 0, .int .i64 0, .int .u8 2, .int .i64 1, .string ⟨#[]⟩, .slice none 0 0, .slice none 0 0, .string ⟨#[]⟩]).alloc (.cells #[.int .u8 4, .slice none 0 0, .string ⟨#[]⟩, .int .i64 k, .int .i64 0, .int .i64 0, .int .u8 2, .int .i64 2, .string ⟨#[]⟩, .slice none 0 0, .slice none 0 0, .string ⟨#[]⟩] 29))
  have HYb := Lib.hid (show Whole ((w2.alloc (.cells #[.int .u8 4, .slice none 0 0, .string ⟨#[]⟩, .int .i64 k, .int .i64 0, .int .i64 0, .int .u8 2, .int .i64 1, .string ⟨#[]⟩, .slice none 0 0, .slice none 0 0, .string ⟨#[]⟩] 29)).alloc (.cells #[.int .u8 4, .slice none 0 0, .string ⟨#[]⟩, .int .i64 k, .int .i64 0, .int .i64 0, .int .u8 2, .int .i64 2, .string ⟨#[]⟩, .slice none 0 0, .slice none 0 0, .string ⟨#[]⟩] 29)) (w2.heap.size + 1) 29 #[.int .u8 4, .slice none 0 0, .string ⟨#[]⟩, .int .i64 k, .int .i64 0, .int .i64 0, .int .u8 2, .int .i64 2, .string ⟨#[]⟩, .slice none 0 0, .slice none 0 0, .string ⟨#[]⟩] by have := Whole.new (w2.alloc (.cells #[.int .u8 4, .slice none 0 0, .string ⟨#[]⟩, .int .i64 k, .int .i64 0, .int .i64 0, .int .u8 2, .int .i64 1, .string ⟨#[]⟩, .slice none 0 0, .slice none 0 0, .string ⟨#[]⟩] 29)) 29 #[.int .u8 4, .slice none 0 0, .string ⟨#[]⟩, .int .i64 k, .int .i64 0, .int .i64 0, .int .u8 2, .int .i64 2, .string ⟨#[]⟩, .slice none 0 0, .slice none 0 0, .string ⟨#[]⟩]; rwa [World.size_alloc] at this)
  have LQ := Lib.hid ((L2.out.later (below_alloc w2 (.cells #[.int .u8 4, .slice none 0 0, .string ⟨#[]⟩, .int .i64 k, .int .i64 0, .int .i64 0, .int .u8 2, .int .i64 1, .string ⟨#[]⟩, .slice none 0 0, .slice none 0 0, .string ⟨#[]⟩] 29))).later (below_alloc (w2.alloc (.cells #[.int .u8 4, .slice none 0 0, .string ⟨#[]⟩, .int .i64 k, .int .i64 0, .int .i64 0, .int .u8 2, .int .i64 1, .string ⟨#[]⟩, .slice none 0 0, .slice none 0 0, .string ⟨#[]⟩] 29)) (.cells #[.int .u8 4, .slice none 0 0, .string ⟨#[]⟩, .int .i64 k, .int .i64 0, .int .i64 0, .int .u8 2, .int .i64 2, .string ⟨#[]⟩, .slice none 0 0, .slice none 0 0, .string ⟨#[]⟩] 29)))
  have BQ := Lib.hid ((B2.out.alloc B2.out.size (.cells #[.int .u8 4, .slice none 0 0, .string ⟨#[]⟩, .int .i64 k, .int .i64 0, .int .i64 0, .int .u8 2, .int .i64 1, .string ⟨#[]⟩, .slice none 0 0, .slice none 0 0, .string ⟨#[]⟩] 29)).alloc (Nat.le_trans B2.out.size (by simp)) (.cells #[.int .u8 4, .slice none 0 0, .string ⟨#[]⟩, .int .i64 k, .int .i64 0, .int .i64 0, .int .u8 2, .int .i64 2, .string ⟨#[]⟩, .slice none 0 0, .slice none 0 0, .string ⟨#[]⟩] 29))
  obtain ⟨wq, hwq⟩ : ∃ W, W = (w2.alloc (.cells #[.int .u8 4, .slice none 0 0, .string ⟨#[]⟩, .int .i64 k, .int .i64 0, .int .i64 0, .int .u8 2, .int .i64 1, .string ⟨#[]⟩, .slice none 0 0, .slice none 0 0, .string ⟨#[]⟩] 29)).alloc (.cells #[.int .u8 4, .slice none 0 0, .string ⟨#[]⟩, .int .i64 k, .int .i64 0, .int .i64 0, .int .u8 2, .int .i64 2, .string ⟨#[]⟩, .slice none 0 0, .slice none 0 0, .string ⟨#[]⟩] 29) := ⟨_, rfl⟩
  rw [← hwq] at HXb HYb LQ BQ ⊢
  clear hwq L2 B2 B1
  generalize hby : w2.heap.size + 1 = by_ at *
  clear hby
  generalize w2.heap.size = bx at *
  have KEEP := Lib.hid (fun (W : World) (hb : Below wq.heap.size wq W) => (fun (q : Cd12 W bx _ _ _ _ _ _ _ _ _ _ _ _) (r : Cd12 W by_ _ _ _ _ _ _ _ _ _ _ _ _) => And.intro q.c0 (And.intro q.c1 (And.intro q.c2 (And.intro q.c3 (And.intro q.c4 (And.intro q.c5 (And.intro q.c6 (And.intro q.c7 (And.intro q.c8 (And.intro q.c9 (And.intro q.c10 (And.intro q.c11 (And.intro r.c0 (And.intro r.c1 (And.intro r.c2 (And.intro r.c3 (And.intro r.c4 (And.intro r.c5 (And.intro r.c6 (And.intro r.c7 (And.intro r.c8 (And.intro r.c9 (And.intro r.c10 r.c11))))))))))))))))))))))) (HXb.out.below hb HXb.out.lt).cd (HYb.out.below hb HYb.out.lt).cd)
  obtain ⟨x0, x1, x2, x3, x4, x5, x6, x7, x8, x9, x10, x11⟩ := HXb.out.cd
  obtain ⟨z0, z1, z2, z3, z4, z5, z6, z7, z8, z9, z10, z11⟩ := HYb.out.cd
  try rw [hk]
  clear hk hm
  go_cut [11, 12] (CutD wq lz)
  case first =>
    go_region_held3 (fun W => W.cell? ⟨bx, 0, none⟩ = some (.int .u8 4) ∧ W.cell? ⟨bx, 1, none⟩ = some (.slice none 0 0) ∧ W.cell? ⟨bx, 2, none⟩ = some (.string ⟨#[]⟩) ∧ W.cell? ⟨bx, 3, none⟩ = some (.int .i64 k) ∧ W.cell? ⟨bx, 4, none⟩ = some (.int .i64 0) ∧ W.cell? ⟨bx, 5, none⟩ = some (.int .i64 0) ∧ W.cell? ⟨bx, 6, none⟩ = some (.int .u8 2) ∧ W.cell? ⟨bx, 7, none⟩ = some (.int .i64 1) ∧ W.cell? ⟨bx, 8, none⟩ = some (.string ⟨#[]⟩) ∧ W.cell? ⟨bx, 9, none⟩ = some (.slice none 0 0) ∧ W.cell? ⟨bx, 10, none⟩ = some (.slice none 0 0) ∧ W.cell? ⟨bx, 11, none⟩ = some (.string ⟨#[]⟩) ∧ W.cell? ⟨by_, 0, none⟩ = some (.int .u8 4) ∧ W.cell? ⟨by_, 1, none⟩ = some (.slice none 0 0) ∧ W.cell? ⟨by_, 2, none⟩ = some (.string ⟨#[]⟩) ∧ W.cell? ⟨by_, 3, none⟩ = some (.int .i64 k) ∧ W.cell? ⟨by_, 4, none⟩ = some (.int .i64 0) ∧ W.cell? ⟨by_, 5, none⟩ = some (.int .i64 0) ∧ W.cell? ⟨by_, 6, none⟩ = some (.int .u8 2) ∧ W.cell? ⟨by_, 7, none⟩ = some (.int .i64 2) ∧ W.cell? ⟨by_, 8, none⟩ = some (.string ⟨#[]⟩) ∧ W.cell? ⟨by_, 9, none⟩ = some (.slice none 0 0) ∧ W.cell? ⟨by_, 10, none⟩ = some (.slice none 0 0) ∧ W.cell? ⟨by_, 11, none⟩ = some (.string ⟨#[]⟩))
      (first | exact KEEP.out _ B9.out | exact KEEP.out _ B6.out | exact KEEP.out _ B5.out | exact KEEP.out _ (B5.out.trans ((below_alloc _ _).mono B5.out.size)) | exact KEEP.out _ (below_alloc _ _).drew | exact KEEP.out _ (Below.refl _ _).drew)
      (first
        | (go_at_call 10; ((with_reducible refine (T1.out _).mono ?_); rintro e w5 ⟨A5, news, rfl, hA, hn, hr, hb⟩; have B5 := Lib.hid ((show Below wq.heap.size wq (wq.alloc (.cells #[.int .u8 4, .slice none 0 0, .string ⟨#[]⟩, .int .i64 k, .int .i64 0, .int .i64 0, .int .u8 2, .int .i64 2, .string ⟨#[]⟩, .slice none 0 0, .slice none 0 0, .string ⟨#[]⟩] 29)).drew from (below_alloc _ _).drew).trans (hb.mono (by simp))); have O5 := Lib.hid (own_below (show (wq.alloc (.cells #[.int .u8 4, .slice none 0 0, .string ⟨#[]⟩, .int .i64 k, .int .i64 0, .int .i64 0, .int .u8 2, .int .i64 2, .string ⟨#[]⟩, .slice none 0 0, .slice none 0 0, .string ⟨#[]⟩] 29)).drew.ownsRow wq.heap.size 29 12 (.slice (some ⟨wq.heap.size, 0, none⟩) 1 1) 1 [.int .u8 4, .slice none 0 0, .string ⟨#[]⟩, .int .i64 k, .int .i64 0, .int .i64 0, .int .u8 2, .int .i64 2, .string ⟨#[]⟩, .slice none 0 0, .slice none 0 0, .string ⟨#[]⟩] from own_new wq [.int .u8 4, .slice none 0 0, .string ⟨#[]⟩, .int .i64 k, .int .i64 0, .int .i64 0, .int .u8 2, .int .i64 2, .string ⟨#[]⟩, .slice none 0 0, .slice none 0 0, .string ⟨#[]⟩] rfl) hb); have R5 := Lib.hid (And.intro hA (And.intro hn hr)); clear hA hn hr hb))
        | (go_at_call 10; ((with_reducible refine (T1.out _).mono ?_); rintro e w5 ⟨A5, news, rfl, hA, hn, hr, hb⟩; have B5 := Lib.hid ((show Below wq.heap.size wq wq.drew from (Below.refl _ _).drew).trans hb); have O5 := Lib.hid (own_mono (own_new w5 [.int .u8 4, .slice none 0 0, .string ⟨#[]⟩, .int .i64 k, .int .i64 0, .int .i64 0, .int .u8 2, .int .i64 2, .string ⟨#[]⟩, .slice none 0 0, .slice none 0 0, .string ⟨#[]⟩] rfl) B5.out.size); have R5 := Lib.hid (And.intro hA (And.intro (fun ad e j u hj => keepq (below_alloc w5 (.cells #[.int .u8 4, .slice none 0 0, .string ⟨#[]⟩, .int .i64 k, .int .i64 0, .int .i64 0, .int .u8 2, .int .i64 2, .string ⟨#[]⟩, .slice none 0 0, .slice none 0 0, .string ⟨#[]⟩] 29)) (hn ad e j u hj)) (hr.later (below_alloc w5 (.cells #[.int .u8 4, .slice none 0 0, .string ⟨#[]⟩, .int .i64 k, .int .i64 0, .int .i64 0, .int .u8 2, .int .i64 2, .string ⟨#[]⟩, .slice none 0 0, .slice none 0 0, .string ⟨#[]⟩] 29))))); clear hA hn hr hb))
        | (refine step_append_from rfl (.tmp 34) (.tmp 38) 30 rfl wq.heap.size 29 i1 _ 12 168 Try.underlying30 HI1.out.1 HI1.out.2.1 HI1.out.2.2.1 HI1.out.2.2.2 rfl (by decide) _ 1 [.int .u8 4, .slice none 0 0, .string ⟨#[]⟩, .int .i64 k, .int .i64 0, .int .i64 0, .int .u8 2, .int .i64 2, .string ⟨#[]⟩, .slice none 0 0, .slice none 0 0, .string ⟨#[]⟩] rfl O5.out A5 _ _ news rfl R5.out.1 R5.out.2.2.len R5.out.2.1 R5.out.2.2.one (by unfold maxLen; have := E1L.out; omega) (by have := E1L.out; omega) (by first | exact B5.out.size | exact Nat.le_trans B5.out.size (by simp)) ?_; intro v6 w6 hown6 hgrow6; have B6 := Lib.hid (show Below wq.heap.size wq w6 from (by first | exact B5.out.grown hgrow6 B5.out.size (fun k hk => (O5.out.lt k hk).1) | exact (B5.out.trans ((below_alloc _ _).mono B5.out.size)).grown hgrow6 (Nat.le_trans B5.out.size (by simp)) (fun k hk => (O5.out.lt k hk).1))); have G6 := Lib.hid (comps_grown O5.out hgrow6 E1F.out R5.out.2.2); rw [Nat.add_comm] at hown6; obtain ⟨g6, c6, rfl, hn6, hm6, hc6⟩ := ownc_at hown6; have H6 := Lib.hid (And.intro hn6 (And.intro hm6 hc6)); clear hown6 hgrow6 hn6 hm6 hc6)
        | (go_at_call 21; refine (D1.out w6 _ _ g6 c6 (LQ.out.later B6.out) H6.out.1 H6.out.2.1 (RowC.at (o := 0) (RowC.app (E1X.out w6) G6.out) H6.out.2.2)).mono ?_; rintro e w9 ⟨A9, c9, rfl, hl, hb⟩; have L9 := Lib.hid hl; have B9 := Lib.hid (B6.out.trans (hb.mono B6.out.size)); clear hl hb))
    all_goals go_wp2_with fail
    all_goals go_meet
    all_goals exact ⟨A9, c9, rfl, rfl, L9.out, B9.out⟩
  case rest =>
    obtain ⟨A8, c8, rfl, rfl, hL8, hB8⟩ := hcut
    obtain ⟨bb, oo, rfl, hK, hE⟩ : ∃ bb oo, A8 = some ⟨bb, oo, none⟩ ∧ Kind wc (fun _ => True) bb 27 ∧ GV.els (fun _ => True) wc bb 5 oo lz := by
      obtain ⟨A', c', he, _, _, hf⟩ := hL8.form
      simp only [Value.slice.injEq] at he
      obtain ⟨rfl, _, rfl⟩ := he
      exact hf (fun e => by rw [e] at HZ; have := HZ.out.1; simp at this)
    have y1 := num_at hE k 1 HZ.out.2.1
    have y2 := num_at hE (k + 1) 2 HZ.out.2.2
    have B8 := Lib.hid (BQ.out.trans (hB8.mono BQ.out.size))
    have hlz := HZ.out.1
    clear hL8 hB8 hK hE x0 x1 x2 x3 x4 x5 x6 x7 x8 x9 x10 x11 z0 z1 z2 z3 z4 z5 z6 z7 z8 z9 z10 z11 HZ
    rw [hlz]
    clear hlz
    have hk0 : (0 : Int) ≤ (k : Int) := by omega
    have hk1 : (k : Int) < (m : Int) + 2 := by omega
    have hk2 : (k : Int) + 1 < (m : Int) + 2 := by omega
    have hk3 : (0 : Int) ≤ (k : Int) + 1 := by omega
    go_wp2
    go_ret
    exact ⟨rfl, B8.out⟩
set_option maxRecDepth 100000 in
set_option maxHeartbeats 8000000 in
theorem qties_false (n i : Int) (w : World) (hn : 0 ≤ n ∧ n ≤ 255) : Calls Try.prog 9 #[.int .u8 n, .int .i64 i, .bool false] w fun e w' => e = .returned (.bool true) ∧ Below w.heap.size w w' := by
  obtain ⟨m, hm, hm3⟩ : ∃ m : Nat, n % 40 = (m : Int) ∧ m ≤ 40 := ⟨(n % 40).toNat, by omega, by omega⟩
  obtain ⟨k, hk', hkm⟩ := mod_nat i (m + 1) (by omega)
  have hk : max i 0 % ((m : Int) + 1) = (k : Int) := hk'
  clear hk'
  have hlen := nums_len m
  have hlt := nums_light m
  obtain ⟨i1, hi1, hy0, hy1, hy2⟩ := info_parts infoComp
  have HI1 := Lib.hid (And.intro hi1 (And.intro hy0 (And.intro hy1 hy2)))
  have HK := Lib.hid (fun W => qknown_true W)
  have HN := Lib.hid (fun W => numbers_any m W (by omega))
  unfold ListOut at HN
  rw [hlen] at HN
  have hok : okC (numsG m).length (⟨4, k, 0, flat 2 2⟩ : Cm GV) := .inl ⟨rfl, by rw [hlen]; simp only; omega⟩
  have hl1 := do_len hok
  simp only [if_true] at hl1
  have hok2 : okC (doL (numsG m) ⟨4, k, 0, flat 2 2⟩).length (⟨4, (k + 1), 0, flat 2 1⟩ : Cm GV) := .inl ⟨rfl, by rw [hl1, hlen]; simp only; omega⟩
  have q1 : okAll (numsG m) [⟨4, k, 0, flat 2 2⟩, ⟨4, (k + 1), 0, flat 2 1⟩] := okAll_two hlt (by omega) hok hok2 (by rw [flat_weight]; omega) (by rw [flat_weight]; omega)
  have T1 := Lib.hid (show ∀ W, Calls Try.prog 10 #[.agg #[.int .u8 4, .slice none 0 0, .string ⟨#[]⟩, .int .i64 k, .int .i64 0, .int .i64 0, .int .u8 2, .int .i64 1, .string ⟨#[]⟩, .slice none 0 0, .slice none 0 0, .string ⟨#[]⟩], .agg #[.int .u8 4, .slice none 0 0, .string ⟨#[]⟩, .int .i64 k, .int .i64 0, .int .i64 0, .int .u8 2, .int .i64 2, .string ⟨#[]⟩, .slice none 0 0, .slice none 0 0, .string ⟨#[]⟩], .bool false] W (TurnL [⟨4, (k + 1), 0, flat 2 1⟩] W) from fun W => turn_list 4 k 0 4 k 0 2 1 2 2 false W (by omega) (by omega) (by omega) (by omega) |>.mono fun e w' h => by
    have e0 : (turnG (⟨4, k, 0, flat 2 1⟩ : Cm GV) ⟨4, k, 0, flat 2 2⟩ false).toList = [⟨4, (k + 1), 0, flat 2 1⟩] := by simp [turnG, listK, gapN, moreN]
    rw [e0] at h
    exact h)
  have D1 := fun (W : World) A c g cc (h : ListIn (numsG m) A c W) hn hc hcs => law_done A c (numsG m) [⟨4, k, 0, flat 2 2⟩, ⟨4, (k + 1), 0, flat 2 1⟩] g 0 cc W h hn hc hcs q1
  have E1L := Lib.hid (Nat.le_refl 1)
  have E1F := Lib.hid (show ∀ c ∈ [(⟨4, (k + 1), 0, flat 2 1⟩ : Cm GV)], ∃ a m, c.v = flat a m from fun c hc => ⟨2, 1, by simp only [List.mem_singleton] at hc; rw [hc]⟩)
  have E1X := Lib.hid (fun W => (show RowC W [(⟨4, k, 0, flat 2 2⟩ : Cm GV)] [.int .u8 4, .slice none 0 0, .string ⟨#[]⟩, .int .i64 k, .int .i64 0, .int .i64 0, .int .u8 2, .int .i64 2, .string ⟨#[]⟩, .slice none 0 0, .slice none 0 0, .string ⟨#[]⟩] from ⟨none, none, 0, 0, [], rfl, vl_flat _ _ _, rfl⟩))
  have hz1 : (runL (numsG m) [⟨4, k, 0, flat 2 2⟩, ⟨4, (k + 1), 0, flat 2 1⟩]).length = m + 2 := by
    have h2 := do_len hok2
    simp only [if_true] at h2
    simp only [runL, List.foldl_cons, List.foldl_nil]
    rw [h2, hl1, hlen]
  have hga := fun t => do_get hok2 t
  have hgb := fun t => do_get hok t
  simp only [if_true] at hga hgb
  have HZ := Lib.hid (And.intro hz1 (And.intro (show (runL (numsG m) [⟨4, k, 0, flat 2 2⟩, ⟨4, (k + 1), 0, flat 2 1⟩])[k]? = some (numG 2) by simp only [runL, List.foldl_cons, List.foldl_nil]; rw [hga]; rw [if_pos (by omega), hgb, if_neg (by omega), if_pos rfl]; rfl) (show (runL (numsG m) [⟨4, k, 0, flat 2 2⟩, ⟨4, (k + 1), 0, flat 2 1⟩])[k + 1]? = some (numG 1) by simp only [runL, List.foldl_cons, List.foldl_nil]; rw [hga]; rw [if_neg (by omega), if_pos rfl]; rfl)))
  clear hi1 hy0 hy1 hy2 hok hok2 hl1 q1 hz1 hga hgb hlt
  generalize runL (numsG m) [⟨4, k, 0, flat 2 2⟩, ⟨4, (k + 1), 0, flat 2 1⟩] = lz at *
  simp only [hlen] at D1
  replace D1 := Lib.hid D1
  clear hlen
  go_enter Try.func9, Try.ntmps9
  go_wp2_with (first
    | (go_at_call 11; refine (HK.out _).mono ?_; rintro e w1 ⟨rfl, hb⟩; have B1 := Lib.hid hb; clear hb)
    | (go_at_call 13; refine (HN.out _).mono ?_; rintro e w2 ⟨A, c, rfl, hl, hb⟩; have L2 := Lib.hid (show ListIn (numsG m) A c w2 by unfold ListIn; rw [nums_len]; exact hl); have B2 := Lib.hid (B1.out.trans (hb.mono B1.out.size)); clear hl hb))
  have HXb := Lib.hid ((Whole.new w2 29 #[.int .u8 4, .slice none 0 0, .string ⟨#[]⟩, .int .i64 k, .int .i64 0, .int .i64 0, .int .u8 2, .int .i64 1, .string ⟨#[]⟩, .slice none 0 0, .slice none 0 0, .string ⟨#[]⟩]).alloc (.cells #[.int .u8 4, .slice none 0 0, .string ⟨#[]⟩, .int .i64 k, .int .i64 0, .int .i64 0, .int .u8 2, .int .i64 2, .string ⟨#[]⟩, .slice none 0 0, .slice none 0 0, .string ⟨#[]⟩] 29))
  have HYb := Lib.hid (show Whole ((w2.alloc (.cells #[.int .u8 4, .slice none 0 0, .string ⟨#[]⟩, .int .i64 k, .int .i64 0, .int .i64 0, .int .u8 2, .int .i64 1, .string ⟨#[]⟩, .slice none 0 0, .slice none 0 0, .string ⟨#[]⟩] 29)).alloc (.cells #[.int .u8 4, .slice none 0 0, .string ⟨#[]⟩, .int .i64 k, .int .i64 0, .int .i64 0, .int .u8 2, .int .i64 2, .string ⟨#[]⟩, .slice none 0 0, .slice none 0 0, .string ⟨#[]⟩] 29)) (w2.heap.size + 1) 29 #[.int .u8 4, .slice none 0 0, .string ⟨#[]⟩, .int .i64 k, .int .i64 0, .int .i64 0, .int .u8 2, .int .i64 2, .string ⟨#[]⟩, .slice none 0 0, .slice none 0 0, .string ⟨#[]⟩] by have := Whole.new (w2.alloc (.cells #[.int .u8 4, .slice none 0 0, .string ⟨#[]⟩, .int .i64 k, .int .i64 0, .int .i64 0, .int .u8 2, .int .i64 1, .string ⟨#[]⟩, .slice none 0 0, .slice none 0 0, .string ⟨#[]⟩] 29)) 29 #[.int .u8 4, .slice none 0 0, .string ⟨#[]⟩, .int .i64 k, .int .i64 0, .int .i64 0, .int .u8 2, .int .i64 2, .string ⟨#[]⟩, .slice none 0 0, .slice none 0 0, .string ⟨#[]⟩]; rwa [World.size_alloc] at this)
  have LQ := Lib.hid ((L2.out.later (below_alloc w2 (.cells #[.int .u8 4, .slice none 0 0, .string ⟨#[]⟩, .int .i64 k, .int .i64 0, .int .i64 0, .int .u8 2, .int .i64 1, .string ⟨#[]⟩, .slice none 0 0, .slice none 0 0, .string ⟨#[]⟩] 29))).later (below_alloc (w2.alloc (.cells #[.int .u8 4, .slice none 0 0, .string ⟨#[]⟩, .int .i64 k, .int .i64 0, .int .i64 0, .int .u8 2, .int .i64 1, .string ⟨#[]⟩, .slice none 0 0, .slice none 0 0, .string ⟨#[]⟩] 29)) (.cells #[.int .u8 4, .slice none 0 0, .string ⟨#[]⟩, .int .i64 k, .int .i64 0, .int .i64 0, .int .u8 2, .int .i64 2, .string ⟨#[]⟩, .slice none 0 0, .slice none 0 0, .string ⟨#[]⟩] 29)))
  have BQ := Lib.hid ((B2.out.alloc B2.out.size (.cells #[.int .u8 4, .slice none 0 0, .string ⟨#[]⟩, .int .i64 k, .int .i64 0, .int .i64 0, .int .u8 2, .int .i64 1, .string ⟨#[]⟩, .slice none 0 0, .slice none 0 0, .string ⟨#[]⟩] 29)).alloc (Nat.le_trans B2.out.size (by simp)) (.cells #[.int .u8 4, .slice none 0 0, .string ⟨#[]⟩, .int .i64 k, .int .i64 0, .int .i64 0, .int .u8 2, .int .i64 2, .string ⟨#[]⟩, .slice none 0 0, .slice none 0 0, .string ⟨#[]⟩] 29))
  obtain ⟨wq, hwq⟩ : ∃ W, W = (w2.alloc (.cells #[.int .u8 4, .slice none 0 0, .string ⟨#[]⟩, .int .i64 k, .int .i64 0, .int .i64 0, .int .u8 2, .int .i64 1, .string ⟨#[]⟩, .slice none 0 0, .slice none 0 0, .string ⟨#[]⟩] 29)).alloc (.cells #[.int .u8 4, .slice none 0 0, .string ⟨#[]⟩, .int .i64 k, .int .i64 0, .int .i64 0, .int .u8 2, .int .i64 2, .string ⟨#[]⟩, .slice none 0 0, .slice none 0 0, .string ⟨#[]⟩] 29) := ⟨_, rfl⟩
  rw [← hwq] at HXb HYb LQ BQ ⊢
  clear hwq L2 B2 B1
  generalize hby : w2.heap.size + 1 = by_ at *
  clear hby
  generalize w2.heap.size = bx at *
  have KEEP := Lib.hid (fun (W : World) (hb : Below wq.heap.size wq W) => (fun (q : Cd12 W bx _ _ _ _ _ _ _ _ _ _ _ _) (r : Cd12 W by_ _ _ _ _ _ _ _ _ _ _ _ _) => And.intro q.c0 (And.intro q.c1 (And.intro q.c2 (And.intro q.c3 (And.intro q.c4 (And.intro q.c5 (And.intro q.c6 (And.intro q.c7 (And.intro q.c8 (And.intro q.c9 (And.intro q.c10 (And.intro q.c11 (And.intro r.c0 (And.intro r.c1 (And.intro r.c2 (And.intro r.c3 (And.intro r.c4 (And.intro r.c5 (And.intro r.c6 (And.intro r.c7 (And.intro r.c8 (And.intro r.c9 (And.intro r.c10 r.c11))))))))))))))))))))))) (HXb.out.below hb HXb.out.lt).cd (HYb.out.below hb HYb.out.lt).cd)
  obtain ⟨x0, x1, x2, x3, x4, x5, x6, x7, x8, x9, x10, x11⟩ := HXb.out.cd
  obtain ⟨z0, z1, z2, z3, z4, z5, z6, z7, z8, z9, z10, z11⟩ := HYb.out.cd
  try rw [hk]
  clear hk hm
  go_cut [11, 12] (CutD wq lz)
  case first =>
    go_region_held3 (fun W => W.cell? ⟨bx, 0, none⟩ = some (.int .u8 4) ∧ W.cell? ⟨bx, 1, none⟩ = some (.slice none 0 0) ∧ W.cell? ⟨bx, 2, none⟩ = some (.string ⟨#[]⟩) ∧ W.cell? ⟨bx, 3, none⟩ = some (.int .i64 k) ∧ W.cell? ⟨bx, 4, none⟩ = some (.int .i64 0) ∧ W.cell? ⟨bx, 5, none⟩ = some (.int .i64 0) ∧ W.cell? ⟨bx, 6, none⟩ = some (.int .u8 2) ∧ W.cell? ⟨bx, 7, none⟩ = some (.int .i64 1) ∧ W.cell? ⟨bx, 8, none⟩ = some (.string ⟨#[]⟩) ∧ W.cell? ⟨bx, 9, none⟩ = some (.slice none 0 0) ∧ W.cell? ⟨bx, 10, none⟩ = some (.slice none 0 0) ∧ W.cell? ⟨bx, 11, none⟩ = some (.string ⟨#[]⟩) ∧ W.cell? ⟨by_, 0, none⟩ = some (.int .u8 4) ∧ W.cell? ⟨by_, 1, none⟩ = some (.slice none 0 0) ∧ W.cell? ⟨by_, 2, none⟩ = some (.string ⟨#[]⟩) ∧ W.cell? ⟨by_, 3, none⟩ = some (.int .i64 k) ∧ W.cell? ⟨by_, 4, none⟩ = some (.int .i64 0) ∧ W.cell? ⟨by_, 5, none⟩ = some (.int .i64 0) ∧ W.cell? ⟨by_, 6, none⟩ = some (.int .u8 2) ∧ W.cell? ⟨by_, 7, none⟩ = some (.int .i64 2) ∧ W.cell? ⟨by_, 8, none⟩ = some (.string ⟨#[]⟩) ∧ W.cell? ⟨by_, 9, none⟩ = some (.slice none 0 0) ∧ W.cell? ⟨by_, 10, none⟩ = some (.slice none 0 0) ∧ W.cell? ⟨by_, 11, none⟩ = some (.string ⟨#[]⟩))
      (first | exact KEEP.out _ B9.out | exact KEEP.out _ B6.out | exact KEEP.out _ B5.out | exact KEEP.out _ (B5.out.trans ((below_alloc _ _).mono B5.out.size)) | exact KEEP.out _ (below_alloc _ _).drew | exact KEEP.out _ (Below.refl _ _).drew)
      (first
        | (go_at_call 10; ((with_reducible refine (T1.out _).mono ?_); rintro e w5 ⟨A5, news, rfl, hA, hn, hr, hb⟩; have B5 := Lib.hid ((show Below wq.heap.size wq (wq.alloc (.cells #[.int .u8 4, .slice none 0 0, .string ⟨#[]⟩, .int .i64 k, .int .i64 0, .int .i64 0, .int .u8 2, .int .i64 2, .string ⟨#[]⟩, .slice none 0 0, .slice none 0 0, .string ⟨#[]⟩] 29)).drew from (below_alloc _ _).drew).trans (hb.mono (by simp))); have O5 := Lib.hid (own_below (show (wq.alloc (.cells #[.int .u8 4, .slice none 0 0, .string ⟨#[]⟩, .int .i64 k, .int .i64 0, .int .i64 0, .int .u8 2, .int .i64 2, .string ⟨#[]⟩, .slice none 0 0, .slice none 0 0, .string ⟨#[]⟩] 29)).drew.ownsRow wq.heap.size 29 12 (.slice (some ⟨wq.heap.size, 0, none⟩) 1 1) 1 [.int .u8 4, .slice none 0 0, .string ⟨#[]⟩, .int .i64 k, .int .i64 0, .int .i64 0, .int .u8 2, .int .i64 2, .string ⟨#[]⟩, .slice none 0 0, .slice none 0 0, .string ⟨#[]⟩] from own_new wq [.int .u8 4, .slice none 0 0, .string ⟨#[]⟩, .int .i64 k, .int .i64 0, .int .i64 0, .int .u8 2, .int .i64 2, .string ⟨#[]⟩, .slice none 0 0, .slice none 0 0, .string ⟨#[]⟩] rfl) hb); have R5 := Lib.hid (And.intro hA (And.intro hn hr)); clear hA hn hr hb))
        | (go_at_call 10; ((with_reducible refine (T1.out _).mono ?_); rintro e w5 ⟨A5, news, rfl, hA, hn, hr, hb⟩; have B5 := Lib.hid ((show Below wq.heap.size wq wq.drew from (Below.refl _ _).drew).trans hb); have O5 := Lib.hid (own_mono (own_new w5 [.int .u8 4, .slice none 0 0, .string ⟨#[]⟩, .int .i64 k, .int .i64 0, .int .i64 0, .int .u8 2, .int .i64 2, .string ⟨#[]⟩, .slice none 0 0, .slice none 0 0, .string ⟨#[]⟩] rfl) B5.out.size); have R5 := Lib.hid (And.intro hA (And.intro (fun ad e j u hj => keepq (below_alloc w5 (.cells #[.int .u8 4, .slice none 0 0, .string ⟨#[]⟩, .int .i64 k, .int .i64 0, .int .i64 0, .int .u8 2, .int .i64 2, .string ⟨#[]⟩, .slice none 0 0, .slice none 0 0, .string ⟨#[]⟩] 29)) (hn ad e j u hj)) (hr.later (below_alloc w5 (.cells #[.int .u8 4, .slice none 0 0, .string ⟨#[]⟩, .int .i64 k, .int .i64 0, .int .i64 0, .int .u8 2, .int .i64 2, .string ⟨#[]⟩, .slice none 0 0, .slice none 0 0, .string ⟨#[]⟩] 29))))); clear hA hn hr hb))
        | (refine step_append_from rfl (.tmp 34) (.tmp 38) 30 rfl wq.heap.size 29 i1 _ 12 168 Try.underlying30 HI1.out.1 HI1.out.2.1 HI1.out.2.2.1 HI1.out.2.2.2 rfl (by decide) _ 1 [.int .u8 4, .slice none 0 0, .string ⟨#[]⟩, .int .i64 k, .int .i64 0, .int .i64 0, .int .u8 2, .int .i64 2, .string ⟨#[]⟩, .slice none 0 0, .slice none 0 0, .string ⟨#[]⟩] rfl O5.out A5 _ _ news rfl R5.out.1 R5.out.2.2.len R5.out.2.1 R5.out.2.2.one (by unfold maxLen; have := E1L.out; omega) (by have := E1L.out; omega) (by first | exact B5.out.size | exact Nat.le_trans B5.out.size (by simp)) ?_; intro v6 w6 hown6 hgrow6; have B6 := Lib.hid (show Below wq.heap.size wq w6 from (by first | exact B5.out.grown hgrow6 B5.out.size (fun k hk => (O5.out.lt k hk).1) | exact (B5.out.trans ((below_alloc _ _).mono B5.out.size)).grown hgrow6 (Nat.le_trans B5.out.size (by simp)) (fun k hk => (O5.out.lt k hk).1))); have G6 := Lib.hid (comps_grown O5.out hgrow6 E1F.out R5.out.2.2); rw [Nat.add_comm] at hown6; obtain ⟨g6, c6, rfl, hn6, hm6, hc6⟩ := ownc_at hown6; have H6 := Lib.hid (And.intro hn6 (And.intro hm6 hc6)); clear hown6 hgrow6 hn6 hm6 hc6)
        | (go_at_call 21; refine (D1.out w6 _ _ g6 c6 (LQ.out.later B6.out) H6.out.1 H6.out.2.1 (RowC.at (o := 0) (RowC.app (E1X.out w6) G6.out) H6.out.2.2)).mono ?_; rintro e w9 ⟨A9, c9, rfl, hl, hb⟩; have L9 := Lib.hid hl; have B9 := Lib.hid (B6.out.trans (hb.mono B6.out.size)); clear hl hb))
    all_goals go_wp2_with fail
    all_goals go_meet
    all_goals exact ⟨A9, c9, rfl, rfl, L9.out, B9.out⟩
  case rest =>
    obtain ⟨A8, c8, rfl, rfl, hL8, hB8⟩ := hcut
    obtain ⟨bb, oo, rfl, hK, hE⟩ : ∃ bb oo, A8 = some ⟨bb, oo, none⟩ ∧ Kind wc (fun _ => True) bb 27 ∧ GV.els (fun _ => True) wc bb 5 oo lz := by
      obtain ⟨A', c', he, _, _, hf⟩ := hL8.form
      simp only [Value.slice.injEq] at he
      obtain ⟨rfl, _, rfl⟩ := he
      exact hf (fun e => by rw [e] at HZ; have := HZ.out.1; simp at this)
    have y1 := num_at hE k 2 HZ.out.2.1
    have y2 := num_at hE (k + 1) 1 HZ.out.2.2
    have B8 := Lib.hid (BQ.out.trans (hB8.mono BQ.out.size))
    have hlz := HZ.out.1
    clear hL8 hB8 hK hE x0 x1 x2 x3 x4 x5 x6 x7 x8 x9 x10 x11 z0 z1 z2 z3 z4 z5 z6 z7 z8 z9 z10 z11 HZ
    rw [hlz]
    clear hlz
    have hk0 : (0 : Int) ≤ (k : Int) := by omega
    have hk1 : (k : Int) < (m : Int) + 2 := by omega
    have hk2 : (k : Int) + 1 < (m : Int) + 2 := by omega
    have hk3 : (0 : Int) ≤ (k : Int) + 1 := by omega
    go_wp2
    go_ret
    exact ⟨rfl, B8.out⟩
theorem qties_row (n i : Int) (left : Bool) (w : World) (hn : 0 ≤ n ∧ n ≤ 255) (_hi : -9223372036854775808 ≤ i ∧ i ≤ 9223372036854775807) : Calls Try.prog 9 #[.int .u8 n, .int .i64 i, .bool left] w fun e w' => e = .returned (.bool true) ∧ Below w.heap.size w w' := by
  cases left
  · exact qties_false n i w hn
  · exact qties_true n i w hn
end Go.Proofs.Ytlgggalbngpelaa
