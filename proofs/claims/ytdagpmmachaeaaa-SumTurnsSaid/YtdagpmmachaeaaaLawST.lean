/- SumTurns, the Go function: it comes out true. -/
import Derived.Test.YtdagpmmachaeaaaLawSP
import Derived.Test.YtdagpmmachaeaaaRegT
namespace Go.Proofs.Ytdagpmmachaeaaa
open Go Go.RowKit
set_option linter.unusedVariables false
set_option linter.unusedSimpArgs false

theorem diff_set {l : List Int} (hb : Byte l) {k : Nat} (hk : k < l.length) {x : Int} (hx : 0 ≤ x ∧ x ≤ 255) : sumN [l] ^^^ sumN [l.set k (xorB l[k] x)] = zer (l.length - (k + 1)) (eightN x.toNat) := by
  have h := sum_diff (hb.take k) (hb.drop (k + 1)) (hb _ (List.getElem_mem hk)) hx
  rw [← split_at hk, ← set_split hk, List.length_drop] at h
  exact h
theorem min_nat2 (a b : Nat) : (if b < a then (b : Int) else (a : Int)) = ((min a b : Nat) : Int) := by split <;> omega
theorem min_nat (a b : Nat) : (if (b : Int) < (a : Int) then (b : Int) else (a : Int)) = ((min a b : Nat) : Int) := by split <;> omega
set_option maxHeartbeats 8000000 in
theorem sturns_true (A : Option Addr) (ca : Nat) (xs : List Int) (B : Option Addr) (cb : Nat) (ys : List Int) (z x : Int) (w : World) (hA : Bytes w.heap.size w A xs) (hB : Bytes w.heap.size w B ys) (hs : Short xs) (ht : Short ys)
    (hz : -9223372036854775808 ≤ z ∧ z ≤ 9223372036854775807) (hx : 0 ≤ x ∧ x ≤ 255) (hca : xs.length ≤ ca) (hcb : ys.length ≤ cb) :
    Calls Try.prog 3 #[.slice A xs.length ca, .slice B ys.length cb, .int .i64 z, .int .u8 x] w fun e w' => e = .returned (.bool true) ∧ Below w.heap.size w w' := by
  have h1 := hs.2
  have h2 := ht.2
  have HS := Lib.hid hs
  have HT := Lib.hid ht
  have HA := Lib.hid hA
  have HB := Lib.hid hB
  clear hA hB hs ht
  by_cases hl1 : xs.length ≤ 1500
  · have hd1 : decide (1500 < (xs.length : Int)) = false := decide_eq_false (by omega)
    by_cases hl2 : ys.length ≤ 1500
    · have hd2 : decide (1500 < (ys.length : Int)) = false := decide_eq_false (by omega)
      have hmin := min_nat xs.length ys.length
      have hmin2 := min_nat2 xs.length ys.length
      have hn1 : min xs.length ys.length ≤ xs.length := Nat.min_le_left _ _
      have hn2 : min xs.length ys.length ≤ ys.length := Nat.min_le_right _ _
      generalize min xs.length ys.length = n at hmin hmin2 hn1 hn2
      by_cases hn0 : n = 0
      · have hb0 : ((n : Int) == 0) = true := by rw [hn0]; rfl
        clear hn0
        go_enter Try.func3, Try.ntmps3
        go_wp2_with (go_at_call 13; refine (known_true _).mono ?_; rintro e W1 ⟨rfl, hb⟩; have HB1 := Lib.hid hb; clear hb)
        go_ret
        exact ⟨rfl, HB1.out⟩
      · have hb0 : ((n : Int) == 0) = false := beq_eq_false_iff_ne.2 (by omega)
        have hn3 : 1 ≤ n := by omega
        clear hn0
        obtain ⟨i0, hi, hz0, hz1, hz2⟩ := info_parts infoByte
        have HI := Lib.hid (And.intro hi (And.intro hz0 (And.intro hz1 hz2)))
        clear hi hz0 hz1 hz2
        obtain ⟨m, hm, hml⟩ := max_nat z hz
        have hmod : (m : Int) % (n : Int) = ((m % n : Nat) : Int) := rfl
        have hk : m % n < n := Nat.mod_lt _ (by omega)
        generalize m % n = k at hmod hk
        have hc1 := run_h A xs.length ca n (by omega)
        have hc2 := run_h B ys.length cb n (by omega)
        have HXL : Hid ((xs.take n).length = n) := Lib.hid (by simp; omega)
        have HYL : Hid ((ys.take n).length = n) := Lib.hid (by simp; omega)
        have HXB := Lib.hid (short_take HS.out n)
        have HYB := Lib.hid (short_take HT.out n)
        have HXC := Lib.hid (fun (W : World) (h : Bytes w.heap.size W A xs) => by
          have := cutAt_bytes h (Nat.zero_le n) hn1 hca
          rwa [List.drop_zero] at this)
        have HYC := Lib.hid (fun (W : World) (h : Bytes w.heap.size W B ys) => by
          have := cutAt_bytes h (Nat.zero_le n) hn2 hcb
          rwa [List.drop_zero] at this)
        generalize hxs : xs.take n = X at HXL HXB HXC
        generalize hys : ys.take n = Y at HYL HYB HYC
        clear hxs hys
        have hkx : k < X.length := by rw [HXL.out]; exact hk
        have hky : k < Y.length := by rw [HYL.out]; exact hk
        have HD : Hid (sumN [X] ^^^ sumN [X.set k (xorB X[k] x)] = sumN [Y] ^^^ sumN [Y.set k (xorB Y[k] x)]) := Lib.hid (by rw [diff_set HXB.out.1 hkx hx, diff_set HYB.out.1 hky hx, HXL.out, HYL.out])
        have hux := HXB.out.1 _ (List.getElem_mem hkx)
        have huy := HYB.out.1 _ (List.getElem_mem hky)
        have hxx := xor_u8 hux hx
        have hxy := xor_u8 huy hx
        have HSX := Lib.hid (short_set HXB.out k (xorB_byte hux hx))
        have HSY := Lib.hid (short_set HYB.out k (xorB_byte huy hx))
        have HGX : Hid (X[k]? = some X[k]) := Lib.hid (List.getElem?_eq_getElem hkx)
        have HGY : Hid (Y[k]? = some Y[k]) := Lib.hid (List.getElem?_eq_getElem hky)
        generalize X[k] = ux at HD hux hxx HSX HGX
        generalize Y[k] = uy at HD huy hxy HSY HGY
        generalize xorB ux x = vx at HD hxx HSX
        generalize xorB uy x = vy at HD hxy HSY
        clear hkx hky
        go_enter Try.func3, Try.ntmps3
        go_wp2_with (first
          | (go_at_call 13; refine (known_true _).mono ?_; rintro e W1 ⟨rfl, hb⟩; have HB1 := Lib.hid hb; have hz1 := hb.size; have HA1 := Lib.hid (HA.out.keep hb (Nat.le_refl _)); have HB1' := Lib.hid (HB.out.keep hb (Nat.le_refl _)); clear hb)
          | (at_builtin; refine wpList_append_from _ rfl (.tmp 37) (.tmp 40) 22 rfl W1.heap.size 5 i0 _ 1 1 Try.underlying22 HI.out.1 HI.out.2.1 HI.out.2.2.1 HI.out.2.2.2 rfl (by decide) (.slice none 0 0) 0 [] rfl (World.ownsRow_nil _ _ _ _) (cutAt A 0 ca) n ca (cellsB X) rfl (fun h => by rw [← HXL.out]; exact (HXC.out W1 HA1.out).none h) (by rw [cellsB_length, HXL.out, Nat.mul_one]) (cellsB_from (HXC.out W1 HA1.out)) (cellsB_one X) (by unfold maxLen; omega) (by omega) (Nat.le_refl _) ?_; intro v' w2 hown hgrow hat; rw [Nat.zero_add, List.nil_append] at hown; obtain ⟨g, d, rfl, hle, hrow⟩ := own_some hown HXL.out.symm (by intro e; have := HXL.out; rw [e] at this; simp at this; omega); rw [HXL.out]; have HR := Lib.hid hrow; have HB2 := Lib.hid (below_grown hgrow); have hz2 := HB2.out.size; have hg1 := hrow.base; have hg2 := hrow.lt; have HA2 := Lib.hid (HA1.out.keep HB2.out hz1); have HB2' := Lib.hid (HB1'.out.keep HB2.out hz1); clear hgrow hown hrow hat hle)
          | (at_builtin; refine wpList_append_from _ rfl (.tmp 42) (.tmp 45) 22 rfl w2.heap.size 5 i0 _ 1 1 Try.underlying22 HI.out.1 HI.out.2.1 HI.out.2.2.1 HI.out.2.2.2 rfl (by decide) (.slice none 0 0) 0 [] rfl (World.ownsRow_nil _ _ _ _) (cutAt B 0 cb) n cb (cellsB Y) rfl (fun h => by rw [← HYL.out]; exact (HYC.out w2 HB2'.out).none h) (by rw [cellsB_length, HYL.out, Nat.mul_one]) (cellsB_from (HYC.out w2 HB2'.out)) (cellsB_one Y) (by unfold maxLen; omega) (by omega) (Nat.le_refl _) ?_; intro v' w3 hown hgrow hat; rw [Nat.zero_add, List.nil_append] at hown; obtain ⟨g3, d3, rfl, hle, hrow⟩ := own_some hown HYL.out.symm (by intro e; have := HYL.out; rw [e] at this; simp at this; omega); rw [HYL.out]; have HRY := Lib.hid hrow; have HB3 := Lib.hid (below_grown hgrow); have hz3 := HB3.out.size; have hg3 := hrow.base; have hg4 := hrow.lt; have HA3 := Lib.hid (HA2.out.keep HB3.out (by omega)); have HB3' := Lib.hid (HB2'.out.keep HB3.out (by omega)); have HR3 := Lib.hid (HR.out.keep HB3.out hg2); obtain ⟨hq1, hq2⟩ := HR3.out.cell HGX.out; obtain ⟨hq3, hq4⟩ := hrow.cell HGY.out; clear hgrow hown hrow hat hle))
        have hgg : g ≠ g3 := by omega
        obtain ⟨W5, hW5⟩ : ∃ W, W = (w3.setCell ⟨g, k, none⟩ (.int .u8 vx)).setCell ⟨g3, k, none⟩ (.int .u8 vy) := ⟨_, rfl⟩
        have HA5 := HXC.out W5 (by rw [hW5]; exact (HA3.out.far (p := ⟨g, k, none⟩) (by show _ ≤ g; omega) _).far (p := ⟨g3, k, none⟩) (by show _ ≤ g3; omega) _)
        have HY5 := HYC.out W5 (by rw [hW5]; exact (HB3'.out.far (p := ⟨g, k, none⟩) (by show _ ≤ g; omega) _).far (p := ⟨g3, k, none⟩) (by show _ ≤ g3; omega) _)
        have HX5 : Bytes (g + 1) W5 (some ⟨g, 0, none⟩) (X.set k vx) := by rw [hW5]; exact ((HR3.out.put (k := k) vx).far (p := ⟨g3, k, none⟩) hgg _).bytes
        have HZ5 : Bytes (g3 + 1) W5 (some ⟨g3, 0, none⟩) (Y.set k vy) := by rw [hW5]; exact ((HRY.out.far (p := ⟨g, k, none⟩) (Ne.symm hgg) _).put (k := k) vy).bytes
        have HB5 : Below w.heap.size w W5 := by rw [hW5]; exact (((HB1.out.trans (HB2.out.mono hz1)).trans (HB3.out.mono (by omega))).setCell (by show _ ≤ g; omega) _).setCell (by show _ ≤ g3; omega) _
        have hs5 : w.heap.size ≤ W5.heap.size := HB5.size
        have hs6 : g + 1 ≤ W5.heap.size := by rw [hW5]; simp; omega
        have hs7 : g3 + 1 ≤ W5.heap.size := by rw [hW5]; simp; omega
        rw [← hW5]
        have hlx : Hid (n = (X.set k vx).length) := Lib.hid (by rw [List.length_set]; exact HXL.out.symm)
        have hly : Hid (n = (Y.set k vy).length) := Lib.hid (by rw [List.length_set]; exact HYL.out.symm)
        have hX := Lib.hid HXL.out.symm
        have hY := Lib.hid HYL.out.symm
        have hp := sum_lt [X]
        have hq := sum_lt [X.set k vx]
        have hr := sum_lt [Y]
        have hs := sum_lt [Y.set k vy]
        obtain ⟨S, hS⟩ : ∃ S, S = Sts.mk A B xs.length ca ys.length cb n g d g3 d3 (sumN [X]) (sumN [X.set k vx]) (sumN [Y]) (sumN [Y.set k vy]) := ⟨_, rfl⟩
        clear hW5 HA3 HB3' HR3 HRY HXC HYC hq1 hq2 hq3 hq4
        refine region_inv (by kernel_rfl) (fun ls a W => ∃ v : Nat → Value, a = ⟨#[.slice A xs.length ca, .slice B ys.length cb, .int .i64 z, .int .u8 x, undef, undef, undef, undef, v 8, .int .i64 n, .int .i64 k, .slice (some ⟨g, 0, none⟩) n d, .slice (some ⟨g3, 0, none⟩) n d3, .slice A xs.length ca, .int .i64 xs.length, .bool false, .bool false, .slice B ys.length cb, .int .i64 ys.length, .bool false, .bool false, .bool false, .bool true, .bool false, .bool false, undef, .slice A xs.length ca, .int .i64 xs.length, .slice B ys.length cb, .int .i64 ys.length, .int .i64 n, .int .i64 n, .bool false, .int .i64 z, .int .i64 m, .int .i64 n, .int .i64 k, .slice none 0 0, .slice A xs.length ca, .int .i64 n, .slice (cutAt A 0 ca) n ca, .slice (some ⟨g, 0, none⟩) n d, .slice none 0 0, .slice B ys.length cb, .int .i64 n, .slice (cutAt B 0 cb) n cb, .slice (some ⟨g3, 0, none⟩) n d3, .slice (some ⟨g, 0, none⟩) n d, .int .i64 k, .slice (some ⟨g, 0, none⟩) n d, .int .i64 k, .pointer (some ⟨g, k, none⟩), .int .u8 ux, .int .u8 x, .int .u8 vx, .pointer (some ⟨g, k, none⟩), .slice (some ⟨g3, 0, none⟩) n d3, .int .i64 k, .slice (some ⟨g3, 0, none⟩) n d3, .int .i64 k, .pointer (some ⟨g3, k, none⟩), .int .u8 uy, .int .u8 x, .int .u8 vy, .pointer (some ⟨g3, k, none⟩), v 65, v 66, v 67, v 68, v 69, v 70, v 71, v 72, v 73, v 74, v 75, v 76, v 77, v 78, v 79, v 80, v 81, v 82, v 83], []⟩ ∧ Below W5.heap.size W5 W ∧ S.All W ls v) ⟨fun i => if i = 8 then .bool false else undef, rfl, (Below.refl _ _).drew, by simp, fun j _ h => ?_⟩ ?_ ?_
        · rw [Array.getD_eq_getD_getElem?, Array.getElem?_replicate] at h; split at h <;> cases h
        · rintro ls a W i ⟨v, rfl, hb, hall⟩ hrd
          obtain ⟨hun, o, ho, ha⟩ := mem_ready.1 hrd
          have hi : i < 20 := by have := (Array.getElem?_eq_some_iff.1 ho).1; simpa using this
          have hcase : i = 0 ∨ i = 1 ∨ i = 2 ∨ i = 3 ∨ i = 4 ∨ i = 5 ∨ i = 6 ∨ i = 7 ∨ i = 8 ∨ i = 9 ∨ i = 10 ∨ i = 11 ∨ i = 12 ∨ i = 13 ∨ i = 14 ∨ i = 15 ∨ i = 16 ∨ i = 17 ∨ i = 18 ∨ i = 19 := by omega
          clear hun hrd hi
          rcases hcase with rfl | rfl | rfl | rfl | rfl | rfl | rfl | rfl | rfl | rfl | rfl | rfl | rfl | rfl | rfl | rfl | rfl | rfl | rfl | rfl
          all_goals (simp only [List.getElem?_toArray, List.getElem?_cons_zero, List.getElem?_cons_succ, Option.some.injEq] at ho; subst ho; simp only [List.mem_toArray, List.mem_cons, forall_eq_or_imp, List.not_mem_nil, false_imp_iff, implies_true, and_true, Region.binds, forall_const] at ha)
          all_goals subst hS
          · refine wpOp_step rfl (fun K hK => ?_)
            go_simp
            refine hK _ _ ?_
            exact ⟨upd v 65 (.slice A xs.length ca), rfl, hb, Sts.step hall (Below.refl _ _) (by decide) rfl⟩
          · refine wpOp_step rfl (fun K hK => ?_)
            go_simp
            refine hK _ _ ?_
            exact ⟨upd v 66 (.int .i64 n), rfl, hb, Sts.step hall (Below.refl _ _) (by decide) rfl⟩
          · have h0 : v 65 = .slice A xs.length ca := hall.2 0 (by decide) ha.1
            have h1 : v 66 = .int .i64 n := hall.2 1 (by decide) ha.2
            refine wpOp_step rfl (fun K hK => ?_)
            simp only [h0, h1]
            go_simp
            refine hK _ _ ?_
            exact ⟨upd v 67 (.slice (cutAt A 0 ca) n ca), by simp [upd, h0, h1], hb, Sts.step hall (Below.refl _ _) (by decide) rfl⟩
          · have h2 : v 67 = .slice (cutAt A 0 ca) n ca := hall.2 2 (by decide) ha
            refine wpOp_step rfl (fun K hK => ?_)
            simp only [h2]
            go_simp
            refine hK _ _ ?_
            exact ⟨upd v 68 (.slice (some ⟨W.heap.size, 0, none⟩) 1 1), by simp [upd, h2], hb.alloc hb.size _, Sts.step hall ((Below.refl _ _).alloc (Nat.le_refl _) _) (by decide) (Boxed.new W _)⟩
          · have h3 : Boxed W (v 68) (.slice (cutAt A 0 ca) n ca) := hall.2 3 (by decide) ha
            refine wpOp_step rfl (fun K hK => ?_)
            go_simp
            refine (sum_box h3 hX.out (HA5.keep hb hs5) (Nat.le_trans hs5 hb.size) HXB.out).mono ?_
            rintro e W' ⟨rfl, rfl⟩
            refine hK _ _ ?_
            exact ⟨upd v 69 (.int .u32 (sumN [X] : Nat)), rfl, hb, Sts.step hall (Below.refl _ _) (by decide) rfl⟩
          · refine wpOp_step rfl (fun K hK => ?_)
            go_simp
            refine hK _ _ ?_
            exact ⟨upd v 70 (.slice (some ⟨g, 0, none⟩) n d), rfl, hb, Sts.step hall (Below.refl _ _) (by decide) rfl⟩
          · have h5 : v 70 = .slice (some ⟨g, 0, none⟩) n d := hall.2 5 (by decide) ha
            refine wpOp_step rfl (fun K hK => ?_)
            simp only [h5]
            go_simp
            refine hK _ _ ?_
            exact ⟨upd v 71 (.slice (some ⟨W.heap.size, 0, none⟩) 1 1), by simp [upd, h5], hb.alloc hb.size _, Sts.step hall ((Below.refl _ _).alloc (Nat.le_refl _) _) (by decide) (Boxed.new W _)⟩
          · have h6 : Boxed W (v 71) (.slice (some ⟨g, 0, none⟩) n d) := hall.2 6 (by decide) ha.1
            refine wpOp_step rfl (fun K hK => ?_)
            go_simp
            refine (sum_box h6 hlx.out (HX5.keep hb hs6) (Nat.le_trans hs6 hb.size) HSX.out).mono ?_
            rintro e W' ⟨rfl, rfl⟩
            refine hK _ _ ?_
            exact ⟨upd v 72 (.int .u32 (sumN [X.set k vx] : Nat)), rfl, hb, Sts.step hall (Below.refl _ _) (by decide) rfl⟩
          · have h4 : v 69 = .int .u32 (sumN [X] : Nat) := hall.2 4 (by decide) ha.1
            have h7 : v 72 = .int .u32 (sumN [X.set k vx] : Nat) := hall.2 7 (by decide) ha.2
            have hx1 : bits .xor .u32 ((sumN [X] : Nat) : Int) ((sumN [X.set k vx] : Nat) : Int) = ((sumN [X] ^^^ sumN [X.set k vx] : Nat) : Int) := u32_xor_nat _ _ hp hq
            refine wpOp_step rfl (fun K hK => ?_)
            simp only [h4, h7]
            go_simp
            refine hK _ _ ?_
            exact ⟨upd v 73 (.int .u32 ((sumN [X] ^^^ sumN [X.set k vx] : Nat) : Int)), by simp [upd, h4, h7], hb, Sts.step hall (Below.refl _ _) (by decide) rfl⟩
          · refine wpOp_step rfl (fun K hK => ?_)
            go_simp
            refine hK _ _ ?_
            exact ⟨upd v 74 (.slice B ys.length cb), rfl, hb, Sts.step hall (Below.refl _ _) (by decide) rfl⟩
          · refine wpOp_step rfl (fun K hK => ?_)
            go_simp
            refine hK _ _ ?_
            exact ⟨upd v 75 (.int .i64 n), rfl, hb, Sts.step hall (Below.refl _ _) (by decide) rfl⟩
          · have h9 : v 74 = .slice B ys.length cb := hall.2 9 (by decide) ha.1
            have h10 : v 75 = .int .i64 n := hall.2 10 (by decide) ha.2
            refine wpOp_step rfl (fun K hK => ?_)
            simp only [h9, h10]
            go_simp
            refine hK _ _ ?_
            exact ⟨upd v 76 (.slice (cutAt B 0 cb) n cb), by simp [upd, h9, h10], hb, Sts.step hall (Below.refl _ _) (by decide) rfl⟩
          · have h11 : v 76 = .slice (cutAt B 0 cb) n cb := hall.2 11 (by decide) ha
            refine wpOp_step rfl (fun K hK => ?_)
            simp only [h11]
            go_simp
            refine hK _ _ ?_
            exact ⟨upd v 77 (.slice (some ⟨W.heap.size, 0, none⟩) 1 1), by simp [upd, h11], hb.alloc hb.size _, Sts.step hall ((Below.refl _ _).alloc (Nat.le_refl _) _) (by decide) (Boxed.new W _)⟩
          · have h12 : Boxed W (v 77) (.slice (cutAt B 0 cb) n cb) := hall.2 12 (by decide) ha.1
            refine wpOp_step rfl (fun K hK => ?_)
            go_simp
            refine (sum_box h12 hY.out (HY5.keep hb hs5) (Nat.le_trans hs5 hb.size) HYB.out).mono ?_
            rintro e W' ⟨rfl, rfl⟩
            refine hK _ _ ?_
            exact ⟨upd v 78 (.int .u32 (sumN [Y] : Nat)), rfl, hb, Sts.step hall (Below.refl _ _) (by decide) rfl⟩
          · refine wpOp_step rfl (fun K hK => ?_)
            go_simp
            refine hK _ _ ?_
            exact ⟨upd v 79 (.slice (some ⟨g3, 0, none⟩) n d3), rfl, hb, Sts.step hall (Below.refl _ _) (by decide) rfl⟩
          · have h14 : v 79 = .slice (some ⟨g3, 0, none⟩) n d3 := hall.2 14 (by decide) ha
            refine wpOp_step rfl (fun K hK => ?_)
            simp only [h14]
            go_simp
            refine hK _ _ ?_
            exact ⟨upd v 80 (.slice (some ⟨W.heap.size, 0, none⟩) 1 1), by simp [upd, h14], hb.alloc hb.size _, Sts.step hall ((Below.refl _ _).alloc (Nat.le_refl _) _) (by decide) (Boxed.new W _)⟩
          · have h15 : Boxed W (v 80) (.slice (some ⟨g3, 0, none⟩) n d3) := hall.2 15 (by decide) ha.1
            refine wpOp_step rfl (fun K hK => ?_)
            go_simp
            refine (sum_box h15 hly.out (HZ5.keep hb hs7) (Nat.le_trans hs7 hb.size) HSY.out).mono ?_
            rintro e W' ⟨rfl, rfl⟩
            refine hK _ _ ?_
            exact ⟨upd v 81 (.int .u32 (sumN [Y.set k vy] : Nat)), rfl, hb, Sts.step hall (Below.refl _ _) (by decide) rfl⟩
          · have h13 : v 78 = .int .u32 (sumN [Y] : Nat) := hall.2 13 (by decide) ha.1
            have h16 : v 81 = .int .u32 (sumN [Y.set k vy] : Nat) := hall.2 16 (by decide) ha.2
            have hx1 : bits .xor .u32 ((sumN [Y] : Nat) : Int) ((sumN [Y.set k vy] : Nat) : Int) = ((sumN [Y] ^^^ sumN [Y.set k vy] : Nat) : Int) := u32_xor_nat _ _ hr hs
            refine wpOp_step rfl (fun K hK => ?_)
            simp only [h13, h16]
            go_simp
            refine hK _ _ ?_
            exact ⟨upd v 82 (.int .u32 ((sumN [Y] ^^^ sumN [Y.set k vy] : Nat) : Int)), by simp [upd, h13, h16], hb, Sts.step hall (Below.refl _ _) (by decide) rfl⟩
          · have h8 : v 73 = .int .u32 ((sumN [X] ^^^ sumN [X.set k vx] : Nat) : Int) := hall.2 8 (by decide) ha.1
            have h17 : v 82 = .int .u32 ((sumN [Y] ^^^ sumN [Y.set k vy] : Nat) : Int) := hall.2 17 (by decide) ha.2
            rw [HD.out] at h8
            refine wpOp_step rfl (fun K hK => ?_)
            simp only [h8, h17]
            go_simp
            refine hK _ _ ?_
            exact ⟨upd v 83 (.bool true), by simp [upd, h8, h17], hb, Sts.step hall (Below.refl _ _) (by decide) rfl⟩
          · have h18 : v 83 = .bool true := hall.2 18 (by decide) ha.1
            refine wpOp_step rfl (fun K hK => ?_)
            simp only [h18]
            go_simp
            refine hK _ _ ?_
            exact ⟨upd v 8 (.bool true), by simp [upd, h18], hb, Sts.step hall (Below.refl _ _) (by decide) rfl⟩
        · rintro ls a W ⟨v, rfl, hb, hall⟩ hrd
          have hl := fun h1 => all_listed h1 hall.1 hrd 19 (by simp)
          have h19 : v 8 = .bool true := by
            subst hS
            refine hall.2 19 (by decide) (hl ?_)
            intro i o ho
            have hi : i < 20 := by have := (Array.getElem?_eq_some_iff.1 ho).1; simpa using this
            have hcase : i = 0 ∨ i = 1 ∨ i = 2 ∨ i = 3 ∨ i = 4 ∨ i = 5 ∨ i = 6 ∨ i = 7 ∨ i = 8 ∨ i = 9 ∨ i = 10 ∨ i = 11 ∨ i = 12 ∨ i = 13 ∨ i = 14 ∨ i = 15 ∨ i = 16 ∨ i = 17 ∨ i = 18 ∨ i = 19 := by omega
            clear hi hl
            rcases hcase with rfl | rfl | rfl | rfl | rfl | rfl | rfl | rfl | rfl | rfl | rfl | rfl | rfl | rfl | rfl | rfl | rfl | rfl | rfl | rfl
            all_goals (simp only [List.getElem?_toArray, List.getElem?_cons_zero, List.getElem?_cons_succ, Option.some.injEq] at ho; subst ho; simp)
          simp only [h19]
          clear hl hrd hall h19
          go_wp2
          go_ret
          exact ⟨rfl, HB5.trans (hb.mono hs5)⟩
    · have hd2 : decide (1500 < (ys.length : Int)) = true := decide_eq_true (by omega)
      go_enter Try.func3, Try.ntmps3
      go_wp2_with (go_at_call 13; refine (known_true _).mono ?_; rintro e W1 ⟨rfl, hb⟩; have HB1 := Lib.hid hb; clear hb)
      go_ret
      exact ⟨rfl, HB1.out⟩
  · have hd1 : decide (1500 < (xs.length : Int)) = true := decide_eq_true (by omega)
    go_enter Try.func3, Try.ntmps3
    go_wp2_with (go_at_call 13; refine (known_true _).mono ?_; rintro e W1 ⟨rfl, hb⟩; have HB1 := Lib.hid hb; clear hb)
    go_ret
    exact ⟨rfl, HB1.out⟩
end Go.Proofs.Ytdagpmmachaeaaa
