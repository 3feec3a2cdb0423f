/- The document's own disk: Drop. -/
import Derived.Test.YtkieacidpiffpaaDskZ
namespace Go.Proofs.Ytkieacidpiffpaa
open Go Go.RowKit Go.Shelf
set_option linter.unusedVariables false
set_option linter.unusedSimpArgs false

theorem drop_sizes (fs : List Rf) (k : Nat) : sizes (rvs (fs.take k ++ fs.drop (k + 1))) ≤ sizes (rvs fs) := by
  have h1 : rvs (fs.take k ++ fs.drop (k + 1)) = (rvs fs).take k ++ (rvs fs).drop (k + 1) := by unfold rvs; simp only [List.map_append, List.map_take, List.map_drop]
  rw [h1, sizes_append]
  conv => rhs; rw [← List.take_append_drop k (rvs fs), sizes_append]
  have h2 : (rvs fs).drop (k + 1) = ((rvs fs).drop k).drop 1 := by rw [List.drop_drop]
  have h3 : sizes ((rvs fs).drop k) = sizes (((rvs fs).drop k).take 1) + sizes (((rvs fs).drop k).drop 1) := by
    conv => lhs; rw [← List.take_append_drop 1 ((rvs fs).drop k), sizes_append]
  rw [h2]; omega
set_option maxHeartbeats 2000000 in
theorem rdrop_any {w : World} {r : Rk} (h : RkAt w r) (s : ByteArray) : Calls Try.prog 40 #[.pointer (some ⟨r.B, 0, none⟩), .string s] w (RRes r w (r.rm.drop s)) := by
  obtain ⟨r1, hB, hO, hM, hfs, hF, hon, hroom, hcall⟩ := tick_step h
  have HC := Lib.hid hcall
  by_cases h0 : r.left = 0
  · have hd : decide (r.left ≠ 0) = false := decide_eq_false (by simpa using h0)
    have HR := Lib.hid (show r.rm.drop s = (r1.rm, 130) by unfold Rm.drop Rm.call; rw [if_pos (show r.rm.left = 0 from h0), hM])
    rw [hd] at HC
    have HB := Lib.hid (And.intro hB hO)
    clear hcall hd h0 hB hO hM hfs hF hon hroom h
    go_enter Try.func40, Try.ntmps40
    go_wp2_with (go_at_call 56; refine HC.out.mono ?_; rintro e w1 ⟨rfl, h1, k1⟩; have H1 := Lib.hid (And.intro h1 k1); clear h1 k1)
    go_ret
    exact RRes.later H1.out.2 HB.out.1 (fun i hi => .inl (HB.out.2 ▸ hi)) (RRes.same H1.out.1 (Below.refl _ _) HR.out)
  · have hd : decide (r.left ≠ 0) = true := decide_eq_true (by simpa using h0)
    have hX : r.rm.drop s = r1.rm.found s fun k => ({ r1.rm with fs := r1.rm.fs.take k ++ r1.rm.fs.drop (k + 1) }, 0) := by unfold Rm.drop Rm.call; rw [if_neg (show ¬ r.rm.left = 0 from h0), hM]
    rw [hd] at HC
    have HB := Lib.hid (And.intro hB hO)
    cases hix : idxR (rvs r1.fs) s with
    | none =>
      have HR := Lib.hid (show r.rm.drop s = (r1.rm, 131) by rw [hX]; unfold Rm.found; rw [show r1.rm.fs = rvs r1.fs from rfl, hix])
      have HF := Lib.hid (fun W (hW : RkAt W r1) => rfind_b hW hB s (z := -1) (by rw [hix]; rfl))
      clear hcall hd h0 hB hO hM hfs hF hon hroom h hX hix
      go_enter Try.func40, Try.ntmps40
      go_wp2_with (first
        | (go_at_call 56; refine HC.out.mono ?_; rintro e w1 ⟨rfl, h1, k1⟩; have H1 := Lib.hid (And.intro h1 k1); clear h1 k1)
        | (go_at_call 57; refine (HF.out _ H1.out.1).mono ?_; rintro e w2 ⟨rfl, rfl⟩))
      go_ret
      exact RRes.later H1.out.2 HB.out.1 (fun i hi => .inl (HB.out.2 ▸ hi)) (RRes.same H1.out.1 (Below.refl _ _) HR.out)
    | some k =>
      have hR : r.rm.drop s = ({ r1.rm with fs := r1.rm.fs.take k ++ r1.rm.fs.drop (k + 1) }, 0) := by rw [hX]; unfold Rm.found; rw [show r1.rm.fs = rvs r1.fs from rfl, hix]
      have HF := Lib.hid (fun W (hW : RkAt W r1) => rfind_b hW hB s (z := k) (by rw [hix]; rfl))
      obtain ⟨v, hv, _⟩ := idxR_some hix
      obtain ⟨f, hf, rfl⟩ := rvs_got hv
      have hlt : k < r1.fs.length := (List.getElem?_eq_some_iff.1 hf).1
      have h64 : r1.fs.length ≤ 64 := by rw [hfs]; exact h.many
      have HG := Lib.hid hf
      have HR := Lib.hid hR
      clear hcall hd h0 hO hM hfs hF hon hroom h hX hix hR
      clear hv hf
      go_enter Try.func40, Try.ntmps40
      go_upto_region 8 with (first
        | (go_at_call 56; refine HC.out.mono ?_; rintro e w1 ⟨rfl, h1, k1⟩; have H1 := Lib.hid (And.intro h1 k1); clear h1 k1)
        | (go_at_call 57; refine (HF.out _ H1.out.1).mono ?_; rintro e w2 ⟨rfl, rfl⟩))
      obtain ⟨g, c, hF, c1, f0, f1, f2, ff, hg⟩ := H1.out.1.file HG.out
      have hrow := H1.out.1.row
      rw [hF] at hrow
      have hnc : r1.fs.length ≤ c := by
        rcases hrow.2 with ⟨e, _⟩ | ⟨_, _, _, e, _, _, h5, _⟩
        · cases e
        · cases e; exact h5
      obtain ⟨n, hn⟩ : ∃ n, n = r1.fs.length := ⟨_, rfl⟩
      have hsl1 := fun W => runF_h (some ⟨g, 0, none⟩) n c k (by omega) W k rfl
      have hsl2 := fun W => runF_l (some ⟨g, 0, none⟩) n c (k + 1) (by omega) W ((k : Int) + 1) (by omega)
      have fr1 := cutF_from hrow rfl (l := 0) (h := k) (Nat.zero_le _) (by omega)
      have fr2 := cutF_from hrow rfl (l := k + 1) (h := r1.fs.length) (by omega) (Nat.le_refl _)
      rw [List.drop_zero] at fr1
      rw [List.take_length] at fr2
      have l1 : (cellsF (r1.fs.take k)).length = k * 3 := by rw [cellsF_length, List.length_take]; omega
      have l2 : (cellsF (r1.fs.drop (k + 1))).length = (n - (k + 1)) * 3 := by rw [cellsF_length, List.length_drop]; omega
      obtain ⟨fs', hfs'⟩ : ∃ fs', fs' = r1.fs.take k ++ r1.fs.drop (k + 1) := ⟨_, rfl⟩
      have l3 : k + (n - (k + 1)) = fs'.length := by rw [hfs', List.length_append, List.length_take, List.length_drop]; omega
      have HE := Lib.hid (And.intro hfs' (show cellsF (r1.fs.take k) ++ cellsF (r1.fs.drop (k + 1)) = cellsF fs' by rw [hfs', cellsF_append]))
      have HFR := Lib.hid (And.intro fr1 (And.intro l1 (And.intro l2 (And.intro l3 (show k ≤ n ∧ n ≤ 64 by omega)))))
      have HF2 := Lib.hid (fun W (hb : Below w2.heap.size w2 W) ad he j u hj => (World.cell?_of_block (w := w2) (w' := W) (a := ad.add j) (hb.block _ (World.block_lt_of_cell? w2 _ (fr2 ad he j u hj)))).trans (fr2 ad he j u hj))
      have HCB := Lib.hid (fun W (hb : Below w2.heap.size w2 W) => (hb.cell (p := ⟨r1.B, 1, none⟩) (World.block_lt_of_cell? w2 _ c1)).trans c1)
      obtain ⟨i0, hi, hz0, hz1, hz2⟩ := info_parts infoFile
      have HI := Lib.hid (And.intro hi (And.intro hz0 (And.intro hz1 hz2)))
      rw [← hn] at c1 hlt h64
      rw [← hn, hB] at HCB
      rw [hB] at c1
      have HBB := Lib.hid hB
      have HFM := Lib.hid (fun g => H1.out.1.box.frozen g)
      have fz : w2.frozen? ⟨r.B, 1, none⟩ = false := hB ▸ H1.out.1.box.frozen 1
      clear f0 f1 f2 ff hg hF hB fr1 fr2 l1 l2 l3 hi hz0 hz1 hz2 hrow hnc hn hfs'
      go_wp2_with (first
        | (at_builtin; refine wpList_append_from _ rfl (.tmp 17) (.tmp 23) 72 rfl w2.heap.size 87 i0 _ 3 48 Try.underlying72 HI.out.1 HI.out.2.1 HI.out.2.2.1 HI.out.2.2.2 rfl (by decide) (.slice none 0 0) 0 [] rfl (World.ownsRow_nil _ _ _ _) (cutAtF (some ⟨g, 0, none⟩) 0 c) k c (cellsF (r1.fs.take k)) rfl (fun h => cutF_none (n := k) (fun e => by cases e) h) HFR.out.2.1 HFR.out.1 (cellsF_one _) (by have := HFR.out.2.2.2.2; unfold maxLen; omega) (by have := HFR.out.2.2.2.2; omega) (Nat.le_refl _) ?_; intro v3 w3 hown hgrow hat; rw [Nat.zero_add, List.nil_append] at hown; have hb3 := Below.grown (Below.refl w2.heap.size w2) hgrow (Nat.le_refl _) (fun k hk => by cases hk); have e3 := HCB.out _ hb3; have H3 := Lib.hid (And.intro hown hb3); clear hown hgrow hat hb3)
        | (at_builtin; refine wpList_append_from _ rfl (.tmp 25) (.tmp 32) 72 rfl w2.heap.size 87 i0 _ 3 48 Try.underlying72 HI.out.1 HI.out.2.1 HI.out.2.2.1 HI.out.2.2.2 rfl (by decide) v3 k (cellsF (r1.fs.take k)) rfl H3.out.1 (cutAtF (some ⟨g, 0, none⟩) (k + 1) c) (n - (k + 1)) (c - (k + 1)) (cellsF (r1.fs.drop (k + 1))) rfl (fun h => cutF_none (n := n - (k + 1)) (fun e => by cases e) h) HFR.out.2.2.1 (HF2.out _ H3.out.2) (cellsF_one _) (by have := HFR.out.2.2.2.2; unfold maxLen; omega) (by have := HFR.out.2.2.2.2; omega) H3.out.2.size ?_; intro v4 w4 hown hgrow hat; rw [HE.out.2, HFR.out.2.2.2.1] at hown; obtain ⟨A4, c4, rfl⟩ := own_shape hown; have hb4 := Below.grown H3.out.2 hgrow H3.out.2.size (fun k hk => (H3.out.1.lt k hk).1); have e4 := HCB.out _ hb4; have z4 : w4.frozen? ⟨r.B, 1, none⟩ = false := (World.frozen?_of_block (hb4.block _ (World.block_lt_of_cell? w2 _ c1))).trans fz; have H4 := Lib.hid (And.intro hown hb4); clear hown hgrow hat hb4))
      go_ret
      rw [HR.out]
      refine RRes.later H1.out.2 HB.out.1 (fun i hi => .inl (HB.out.2 ▸ hi)) ?_
      have hres := H1.out.1.relist H4.out.1 H4.out.2 (fun f hf => .inl (by rw [HE.out.1] at hf; exact (List.mem_append.1 hf).elim List.mem_of_mem_take List.mem_of_mem_drop)) (by rw [HE.out.1]; exact Nat.le_trans (drop_sizes _ _) H1.out.1.used) (by rw [← HFR.out.2.2.2.1]; have := HFR.out.2.2.2.2; omega)
      rw [HBB.out] at hres
      exact ⟨rfl, _, hres.1, by unfold Rk.rm rvs; rw [HE.out.1]; simp only [List.map_append, List.map_take, List.map_drop], HBB.out.symm, hres.2.1, hres.2.2⟩
end Go.Proofs.Ytkieacidpiffpaa
