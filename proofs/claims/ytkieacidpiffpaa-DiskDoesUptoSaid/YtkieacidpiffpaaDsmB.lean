/- The document's own disk: Cut. -/
import Derived.Test.YtkieacidpiffpaaDsmA
namespace Go.Proofs.Ytkieacidpiffpaa
open Go Go.RowKit Go.Shelf
set_option linter.unusedVariables false
set_option linter.unusedSimpArgs false

theorem cutAt_zero (A : Option Addr) (c : Nat) : cutAt A 0 c = A := by
  unfold cutAt
  split
  · rfl
  · cases A with
    | none => rfl
    | some a => simp [Addr.add]
theorem Src.take {own : Nat → Prop} {w : World} {A : Option Addr} {bs : List Int} (h : Src own w A bs) (m : Nat) : Src own w A (bs.take m) := fun hne => by
  obtain ⟨b, o, e, h1, h2, h3⟩ := h (fun e => hne (by rw [e, List.take_nil]))
  refine ⟨b, o, e, h1, h2, fun i x hi => ?_⟩
  rw [List.getElem?_take] at hi
  split at hi
  · exact h3 i x hi
  · cases hi
theorem rcut_at {w : World} {r : Rk} (h : RkAt w r) {k m : Nat} {f : Rf} (hi : r.fs[k]? = some f) {g : Nat} {c : Nat} (hF : r.F = .slice (some ⟨g, 0, none⟩) r.fs.length c) (hm : m ≤ f.vw.has.length) :
    RRes r w ({ r.rm with fs := modV r.rm.fs k (cutV m) }, 0) (.returned (.int .i64 0)) ((w.setCell ⟨g, k * 3 + 1, none⟩ (.slice f.A m f.c)).setCell ⟨g, k * 3 + 2, none⟩ (.int .i64 (min f.vw.lasts m : Nat))) := by
  have hmem := List.mem_of_getElem? hi
  have hlt : k < r.fs.length := (List.getElem?_eq_some_iff.1 hi).1
  have hrow := h.row
  rw [hF] at hrow
  have hml : (f.vw.has.take m).length = m := by rw [List.length_take]; omega
  obtain ⟨h1, h2⟩ := hrow.stored (k * 3 + 1) (.slice f.A m f.c)
  rw [show (Value.slice f.A m f.c) = .slice f.A (f.vw.has.take m).length f.c by rw [hml], cellsF_set1 (f.vw.has.take m) f.A f.c hi, hml] at h1
  obtain ⟨h3, h4⟩ := h1.stored (k * 3 + 2) (.int .i64 (min f.vw.lasts m : Nat))
  rw [cellsF_set2 (f := ⟨{ f.vw with has := f.vw.has.take m }, f.A, f.c⟩) (min f.vw.lasts m) (by rw [List.getElem?_set_self hlt]), List.set_set] at h3
  have hsz := sizes_set (cutV m f.vw) (rvs_get hi)
  have hst : ∀ i, r.F.ownBlock ≠ some i → ((w.setCell ⟨g, k * 3 + 1, none⟩ (.slice f.A m f.c)).setCell ⟨g, k * 3 + 2, none⟩ (.int .i64 (min f.vw.lasts m : Nat))).heap[i]? = w.heap[i]? := fun i hne => by
    have hne2 : i ≠ g := fun e => hne (by rw [hF, e]; rfl)
    exact (Below.heap_setCell _ _ _ _ hne2).trans (Below.heap_setCell _ _ _ _ hne2)
  have hat := h.set (f' := ⟨cutV m f.vw, f.A, f.c⟩) hi (w' := (w.setCell ⟨g, k * 3 + 1, none⟩ (.slice f.A m f.c)).setCell ⟨g, k * 3 + 2, none⟩ (.int .i64 (min f.vw.lasts m : Nat))) (by rw [hF]; exact h3) (fun i _ hne => hst i hne)
    (((h.bytes f hmem).of_eq fun i hne ha => hst i fun e => (h.at_lt hmem ⟨hne, ha⟩).2 (.inr e)).take m) (by show (f.vw.has.take m).length ≤ f.c; have := h.cap f hmem; omega) (by show min f.vw.lasts m ≤ (f.vw.has.take m).length; omega) ((h.byte f hmem).take m) (h.name f hmem)
    (by have := h.used; have e : (cutV m f.vw).has.length = m := hml; show sizes ((rvs r.fs).set k (cutV m f.vw)) ≤ _; omega)
  refine ⟨rfl, _, hat, ?_, rfl, ((Kp.setCell (own := r.own) w ⟨g, k * 3 + 1, none⟩ (.slice f.A m f.c) (.inl (.inr (by rw [hF]; rfl)))).trans (Kp.setCell (own := r.own) _ ⟨g, k * 3 + 2, none⟩ (.int .i64 (min f.vw.lasts m : Nat)) (.inl (.inr (by rw [hF]; rfl)))) fun i hi => .inl hi),
    set_own fun i hi2 => .inl (.inr ⟨f, hmem, ⟨fun e => hi2.1 (by show f.vw.has.take m = []; rw [e, List.take_nil]), hi2.2⟩⟩)⟩
  rw [rm_set, show modV r.rm.fs k (cutV m) = _ from modV_at hi (cutV m)]
set_option maxHeartbeats 2000000 in
theorem rcut_any {w : World} {r : Rk} (h : RkAt w r) (s : ByteArray) (n : Int) (hn : -9223372036854775808 ≤ n ∧ n ≤ 9223372036854775807) : Calls Try.prog 39 #[.pointer (some ⟨r.B, 0, none⟩), .string s, .int .i64 n] w (RRes r w (r.rm.cut s n)) := by
  obtain ⟨r1, hB, hO, hM, hfs, hF, hon, hroom, hcall⟩ := tick_step h
  have HC := Lib.hid hcall
  by_cases h0 : r.left = 0
  · have hd : decide (r.left ≠ 0) = false := decide_eq_false (by simpa using h0)
    have HR := Lib.hid (show r.rm.cut s n = (r1.rm, 130) by unfold Rm.cut Rm.call; rw [if_pos (show r.rm.left = 0 from h0), hM])
    rw [hd] at HC
    have HB := Lib.hid (And.intro hB hO)
    clear hcall hd h0 hB hO hM hfs hF hon hroom h
    go_enter Try.func39, Try.ntmps39
    go_wp2_with (go_at_call 56; refine HC.out.mono ?_; rintro e w1 ⟨rfl, h1, k1⟩; have H1 := Lib.hid (And.intro h1 k1); clear h1 k1)
    go_ret
    exact RRes.later H1.out.2 HB.out.1 (fun i hi => .inl (HB.out.2 ▸ hi)) (RRes.same H1.out.1 (Below.refl _ _) HR.out)
  · have hd : decide (r.left ≠ 0) = true := decide_eq_true (by simpa using h0)
    have hX : r.rm.cut s n = r1.rm.found s fun k => (if n < 0 ∨ (((r1.rm.fs[k]?).map fun v => v.has.length).getD 0 : Nat) < n then (r1.rm, 1) else ({ r1.rm with fs := modV r1.rm.fs k (cutV n.toNat) }, 0)) := by unfold Rm.cut Rm.call; rw [if_neg (show ¬ r.rm.left = 0 from h0), hM]
    rw [hd] at HC
    have HB := Lib.hid (And.intro hB hO)
    cases hix : idxR (rvs r1.fs) s with
    | none =>
      have HR := Lib.hid (show r.rm.cut s n = (r1.rm, 131) by rw [hX]; unfold Rm.found; rw [show r1.rm.fs = rvs r1.fs from rfl, hix])
      have HF := Lib.hid (fun W (hW : RkAt W r1) => rfind_b hW hB s (z := -1) (by rw [hix]; rfl))
      clear hcall hd h0 hB hO hM hfs hF hon hroom h hX hix
      go_enter Try.func39, Try.ntmps39
      go_wp2_with (first
        | (go_at_call 56; refine HC.out.mono ?_; rintro e w1 ⟨rfl, h1, k1⟩; have H1 := Lib.hid (And.intro h1 k1); clear h1 k1)
        | (go_at_call 57; refine (HF.out _ H1.out.1).mono ?_; rintro e w2 ⟨rfl, rfl⟩))
      go_ret
      exact RRes.later H1.out.2 HB.out.1 (fun i hi => .inl (HB.out.2 ▸ hi)) (RRes.same H1.out.1 (Below.refl _ _) HR.out)
    | some k =>
      have hR : r.rm.cut s n = (if n < 0 ∨ (((r1.rm.fs[k]?).map fun v => v.has.length).getD 0 : Nat) < n then (r1.rm, 1) else ({ r1.rm with fs := modV r1.rm.fs k (cutV n.toNat) }, 0)) := by rw [hX]; unfold Rm.found; rw [show r1.rm.fs = rvs r1.fs from rfl, hix]
      have HF := Lib.hid (fun W (hW : RkAt W r1) => rfind_b hW hB s (z := k) (by rw [hix]; rfl))
      obtain ⟨v, hv, _⟩ := idxR_some hix
      obtain ⟨f, hf, rfl⟩ := rvs_got hv
      have hlt : k < r1.fs.length := (List.getElem?_eq_some_iff.1 hf).1
      have h64 : r1.fs.length ≤ 64 := by rw [hfs]; exact h.many
      have HG := Lib.hid hf
      have hcap0 : ∀ (j : Nat) (x : Rf), r1.fs[j]? = some x → x.vw.has.length ≤ x.c := fun j x hx => h.cap x (List.mem_of_getElem? (hfs ▸ hx))
      have HR := Lib.hid hR
      clear hcall hd h0 hO hM hfs hF hon hroom h hX hix hR
      have hlv : (((r1.rm.fs[k]?).map fun v => v.has.length).getD 0 : Nat) = f.vw.has.length := by rw [show r1.rm.fs = rvs r1.fs from rfl, rvs_get hf]; rfl
      rw [hlv] at HR
      have hmem := List.mem_of_getElem? hf
      have hz0 : k * 3 = k * 3 := rfl
      clear hv hlv hz0
      by_cases hneg : n < 0
      · have d1 : decide (n < 0) = true := decide_eq_true hneg
        have HX := Lib.hid (show r.rm.cut s n = (r1.rm, 1) by rw [HR.out, if_pos (.inl hneg)])
        clear hneg hf hmem
        go_enter Try.func39, Try.ntmps39
        go_wp2_with (first
          | (go_at_call 56; refine HC.out.mono ?_; rintro e w1 ⟨rfl, h1, k1⟩; have H1 := Lib.hid (And.intro h1 k1); obtain ⟨g, c, hF, c1, f0, f1, f2, ff, hg⟩ := h1.file HG.out; have HFF := Lib.hid hF; rw [HB.out.1] at c1 hg; clear h1 k1 hF f0)
          | (go_at_call 57; refine (HF.out _ H1.out.1).mono ?_; rintro e w2 ⟨rfl, rfl⟩))
        go_ret
        rw [HX.out]
        exact RRes.later H1.out.2 HB.out.1 (fun i hi => .inl (HB.out.2 ▸ hi)) (RRes.same H1.out.1 (Below.refl _ _) rfl)
      · have d1 : decide (n < 0) = false := decide_eq_false hneg
        by_cases hbig : (f.vw.has.length : Int) < n
        · have d2 : decide ((f.vw.has.length : Int) < n) = true := decide_eq_true hbig
          have HX := Lib.hid (show r.rm.cut s n = (r1.rm, 1) by rw [HR.out, if_pos (.inr hbig)])
          clear hneg hf hmem hbig
          go_enter Try.func39, Try.ntmps39
          go_wp2_with (first
          | (go_at_call 56; refine HC.out.mono ?_; rintro e w1 ⟨rfl, h1, k1⟩; have H1 := Lib.hid (And.intro h1 k1); obtain ⟨g, c, hF, c1, f0, f1, f2, ff, hg⟩ := h1.file HG.out; have HFF := Lib.hid hF; rw [HB.out.1] at c1 hg; clear h1 k1 hF f0)
          | (go_at_call 57; refine (HF.out _ H1.out.1).mono ?_; rintro e w2 ⟨rfl, rfl⟩))
          go_ret
          rw [HX.out]
          exact RRes.later H1.out.2 HB.out.1 (fun i hi => .inl (HB.out.2 ▸ hi)) (RRes.same H1.out.1 (Below.refl _ _) rfl)
        · obtain ⟨m, rfl⟩ : ∃ m : Nat, n = m := ⟨n.toNat, by omega⟩
          have d2 : decide ((f.vw.has.length : Int) < (m : Int)) = false := decide_eq_false hbig
          have d3 : decide (f.vw.has.length < m) = false := decide_eq_false (by omega)
          have d4 : ¬ f.vw.has.length < m := by omega
          have HX := Lib.hid (show r.rm.cut s m = ({ r1.rm with fs := modV r1.rm.fs k (cutV m) }, 0) by rw [HR.out, if_neg (by omega)]; rfl)
          have hcap : f.vw.has.length ≤ f.c := hcap0 k f hf
          have hsl := fun W => run_h f.A f.vw.has.length f.c m (by omega) W
          have HM := Lib.hid (show m ≤ f.vw.has.length by omega)
          have hmin : min (f.vw.lasts : Int) (m : Int) = ((min f.vw.lasts m : Nat) : Int) := by omega
          have HMIN := Lib.hid hmin
          clear hneg hf hmem hbig hcap hcap0 hmin
          go_enter Try.func39, Try.ntmps39
          go_upto_region 9 with (first
          | (go_at_call 56; refine HC.out.mono ?_; rintro e w1 ⟨rfl, h1, k1⟩; have H1 := Lib.hid (And.intro h1 k1); obtain ⟨g, c, hF, c1, f0, f1, f2, ff, hg⟩ := h1.file HG.out; have HFF := Lib.hid hF; rw [HB.out.1] at c1 hg; clear h1 k1 hF f0)
          | (go_at_call 57; refine (HF.out _ H1.out.1).mono ?_; rintro e w2 ⟨rfl, rfl⟩))
          have e1 := ff (k * 3 + 1)
          have e2 := ff (k * 3 + 2)
          have hg2 := Ne.symm hg
          go_region
          all_goals go_wp2
          all_goals go_region
          all_goals go_wp2
          all_goals go_ret
          all_goals (rw [cutAt_zero, HMIN.out, HX.out]; exact RRes.later H1.out.2 HB.out.1 (fun i hi => .inl (HB.out.2 ▸ hi)) (RRes.drew (RRes.drew (rcut_at H1.out.1 HG.out HFF.out HM.out))))
end Go.Proofs.Ytkieacidpiffpaa
