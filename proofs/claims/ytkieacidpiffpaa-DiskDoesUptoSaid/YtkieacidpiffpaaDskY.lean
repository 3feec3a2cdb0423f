/- The document's own disk: Sync, Cut, Drop, Read. -/
import Derived.Test.YtkieacidpiffpaaDskX
import Derived.BigRegion
namespace Go.Proofs.Ytkieacidpiffpaa
open Go Go.RowKit Go.Shelf
set_option linter.unusedVariables false
set_option linter.unusedSimpArgs false

def RRes (r : Rk) (w : World) (p : Rm × Int) (e : Ending) (w' : World) : Prop :=
  e = .returned (.int .i64 p.2) ∧ ∃ r', RkAt w' r' ∧ r'.rm = p.1 ∧ r'.B = r.B ∧ Kp r.own w w' ∧ ∀ i, r'.own i → r.own i ∨ w.heap.size ≤ i
def Rm.call (m : Rm) (g : Rm → Rm × Int) : Rm × Int := if m.left = 0 then (m.tick, 130) else g m.tick
def Rm.found (m : Rm) (s : ByteArray) (g : Nat → Rm × Int) : Rm × Int := match idxR m.fs s with | none => (m, 131) | some k => g k
def modV (fs : List Vw) (k : Nat) (g : Vw → Vw) : List Vw := match fs[k]? with | some v => fs.set k (g v) | none => fs
def Rm.sync (m : Rm) (s : ByteArray) : Rm × Int := m.call fun m => m.found s fun k => ({ m with fs := modV m.fs k syncV }, 0)
def Rm.cut (m : Rm) (s : ByteArray) (n : Int) : Rm × Int := m.call fun m => m.found s fun k => if n < 0 ∨ (((m.fs[k]?).map fun v => v.has.length).getD 0 : Nat) < n then (m, 1) else ({ m with fs := modV m.fs k (cutV n.toNat) }, 0)
def Rm.drop (m : Rm) (s : ByteArray) : Rm × Int := m.call fun m => m.found s fun k => ({ m with fs := m.fs.take k ++ m.fs.drop (k + 1) }, 0)
theorem RRes.later {r r1 : Rk} {w W w' : World} {p : Rm × Int} {e : Ending} (hk : Kp r.own w W) (hB : r1.B = r.B) (ho : ∀ i, r1.own i → r.own i ∨ w.heap.size ≤ i) (h : RRes r1 W p e w') : RRes r w p e w' := by
  obtain ⟨he, r', h1, h2, h3, h4, h5⟩ := h
  refine ⟨he, r', h1, h2, h3.trans hB, hk.trans h4 ho, fun i hi => ?_⟩
  rcases h5 i hi with h6 | h6
  · exact ho i h6
  · exact .inr (Nat.le_trans hk.size h6)
theorem RRes.same {r : Rk} {w w' : World} {p : Rm × Int} {c : Int} (h : RkAt w r) (hb : Below w.heap.size w w') (h1 : p = (r.rm, c)) : RRes r w p (.returned (.int .i64 c)) w' := by
  subst h1; exact ⟨rfl, r, h.below hb, rfl, rfl, Kp.of_below hb, fun i hi => .inl hi⟩
theorem RRes.drew {r : Rk} {w w' : World} {p : Rm × Int} {e : Ending} (h : RRes r w p e w') : RRes r w p e w'.drew := by
  obtain ⟨he, r', h1, h2, h3, h4, h5⟩ := h
  exact ⟨he, r', h1.keep fun _ _ => rfl, h2, h3, h4.trans (Kp.drew r.own _) fun i hi => .inl hi, h5⟩
theorem sizes_set : ∀ {fs : List Vw} {k : Nat} {f : Vw} (v : Vw), fs[k]? = some f → sizes (fs.set k v) + f.has.length = sizes fs + v.has.length
  | [], k, f, v, h => by simp at h
  | g :: r, 0, f, v, h => by
    simp only [List.getElem?_cons_zero, Option.some.injEq] at h; subst h
    rw [List.set_cons_zero, sizes_cons, sizes_cons]; omega
  | g :: r, k + 1, f, v, h => by
    have := sizes_set (fs := r) (k := k) (f := f) v (by simpa using h)
    rw [List.set_cons_succ, sizes_cons, sizes_cons]; omega
theorem rvs_set (fs : List Rf) (k : Nat) (f : Rf) : rvs (fs.set k f) = (rvs fs).set k f.vw := by unfold rvs; rw [List.map_set]
/-- A file of the list is another one. -/
theorem RkAt.set {w w' : World} {r : Rk} (h : RkAt w r) {k : Nat} {f f' : Rf} (hi : r.fs[k]? = some f) (hrow : w'.ownsRow 0 87 3 r.F r.fs.length (cellsF (r.fs.set k f'))) (hk : ∀ i, i < w.heap.size → r.F.ownBlock ≠ some i → w'.heap[i]? = w.heap[i]?)
    (hb : Src r.wr w' f'.A f'.vw.has) (hc : f'.vw.has.length ≤ f'.c) (hl : f'.vw.lasts ≤ f'.vw.has.length) (hB : Byte f'.vw.has) (hn : f'.vw.name.size ≤ 30) (hu : sizes ((rvs r.fs).set k f'.vw) ≤ r.room) :
    RkAt w' { r with fs := r.fs.set k f' } := by
  have hm : ∀ g, g ∈ r.fs.set k f' → g ∈ r.fs ∨ g = f' := fun g hg => List.mem_or_eq_of_mem_set hg
  refine ⟨h.box.of_eq (hk _ h.box.lt h.bf), by simpa using hrow, h.bf, fun g hg => ?_, fun g hg => ?_, fun g hg => ?_, fun g hg => ?_, fun g hg => ?_, by rw [rvs_set]; exact hu, h.room, by simpa using h.many, h.left⟩
  · rcases hm g hg with hg | rfl
    · exact (h.bytes g hg).of_eq fun i hne ha => hk i (h.at_lt hg ⟨hne, ha⟩).1 fun e => (h.at_lt hg ⟨hne, ha⟩).2 (.inr e)
    · exact hb
  · rcases hm g hg with hg | rfl
    · exact h.cap g hg
    · exact hc
  · rcases hm g hg with hg | rfl
    · exact h.lasts g hg
    · exact hl
  · rcases hm g hg with hg | rfl
    · exact h.byte g hg
    · exact hB
  · rcases hm g hg with hg | rfl
    · exact h.name g hg
    · exact hn
theorem RkAt.drewN {w : World} {r : Rk} (h : RkAt w r) (n : Nat) : RkAt (w.drewN n) r := h.keep fun _ _ => rfl
theorem modV_at {fs : List Rf} {k : Nat} {f : Rf} (hi : fs[k]? = some f) (g : Vw → Vw) : modV (rvs fs) k g = (rvs fs).set k (g f.vw) := by
  unfold modV; rw [rvs_get hi]
theorem set_own {r : Rk} {k : Nat} {f' : Rf} {w : World} (hf : ∀ i, f'.at_ i → r.own i ∨ w.heap.size ≤ i) : ∀ i, ({ r with fs := r.fs.set k f' } : Rk).own i → r.own i ∨ w.heap.size ≤ i := by
  intro i hi
  rcases hi with hi | ⟨g, hg, hi⟩
  · exact .inl (.inl hi)
  · rcases List.mem_or_eq_of_mem_set hg with hg | rfl
    · exact .inl (.inr ⟨g, hg, hi⟩)
    · exact hf i hi
theorem rm_set (r : Rk) (k : Nat) (f' : Rf) : ({ r with fs := r.fs.set k f' } : Rk).rm = { r.rm with fs := (rvs r.fs).set k f'.vw } := by
  unfold Rk.rm; simp only [rvs_set]
/-- What lasts of a file is written. -/
theorem rsync_at {w : World} {r : Rk} (h : RkAt w r) {k : Nat} {f : Rf} (hi : r.fs[k]? = some f) {g : Nat} {c : Nat} (hF : r.F = .slice (some ⟨g, 0, none⟩) r.fs.length c) :
    RRes r w ({ r.rm with fs := modV r.rm.fs k syncV }, 0) (.returned (.int .i64 0)) (w.setCell ⟨g, k * 3 + 2, none⟩ (.int .i64 f.vw.has.length)) := by
  have hmem := List.mem_of_getElem? hi
  have hrow := h.row
  rw [hF] at hrow
  obtain ⟨h1, h2⟩ := hrow.stored (k * 3 + 2) (.int .i64 f.vw.has.length)
  rw [cellsF_set2 f.vw.has.length hi] at h1
  have hsz := sizes_set (syncV f.vw) (rvs_get hi)
  have hat := h.set (f' := { f with vw := syncV f.vw }) hi (w' := w.setCell ⟨g, k * 3 + 2, none⟩ (.int .i64 f.vw.has.length)) (by rw [hF]; exact h1) (fun i hlt hne => h2.block i hlt (by rw [hF] at hne; exact fun e => hne e.symm))
    ((h.bytes f hmem).of_eq fun i hne ha => Below.heap_setCell _ _ _ _ (fun e => (h.at_lt hmem ⟨hne, ha⟩).2 (.inr (by rw [hF]; exact congrArg some e.symm)))) (h.cap f hmem) (Nat.le_refl _) (h.byte f hmem) (h.name f hmem)
    (by have := h.used; have e : (syncV f.vw).has.length = f.vw.has.length := rfl; show sizes ((rvs r.fs).set k (syncV f.vw)) ≤ _; omega)
  refine ⟨rfl, _, hat, ?_, rfl, Kp.setCell _ _ _ (.inl (.inr (by rw [hF]; rfl))), set_own fun i hi2 => .inl (.inr ⟨f, hmem, hi2⟩)⟩
  rw [rm_set, show modV r.rm.fs k syncV = _ from modV_at hi syncV]
theorem tick_step {w : World} {r : Rk} (h : RkAt w r) : ∃ r1, r1.B = r.B ∧ r1.own = r.own ∧ r1.rm = r.rm.tick ∧ r1.fs = r.fs ∧ r1.F = r.F ∧ r1.on = r.on ∧ r1.room = r.room ∧
    Calls Try.prog 56 #[.pointer (some ⟨r.B, 0, none⟩)] w fun e w' => e = .returned (.bool (decide (r.left ≠ 0))) ∧ RkAt w' r1 ∧ Kp r.own w w' := by
  obtain ⟨h1, h2, h3, h4, h5, h6⟩ := tick_parts r
  exact ⟨r.tick, h1, h4, tick_rm r, h3, h2, h6, h5, rcall_any h⟩
theorem rfind_b {w : World} {r : Rk} {B : Nat} (h : RkAt w r) (hB : r.B = B) (s : ByteArray) {z : Int} (hz : idxI (idxR (rvs r.fs) s) = z) : Calls Try.prog 57 #[.pointer (some ⟨B, 0, none⟩), .string s] w fun e w' => e = .returned (.int .i64 z) ∧ w' = w := by
  subst hB; subst hz; exact rfind_any h s
set_option maxHeartbeats 1000000 in
theorem rsync_any {w : World} {r : Rk} (h : RkAt w r) (s : ByteArray) : Calls Try.prog 38 #[.pointer (some ⟨r.B, 0, none⟩), .string s] w (RRes r w (r.rm.sync s)) := by
  obtain ⟨r1, hB, hO, hM, hfs, hF, hon, hroom, hcall⟩ := tick_step h
  have HC := Lib.hid hcall
  by_cases h0 : r.left = 0
  · have hd : decide (r.left ≠ 0) = false := decide_eq_false (by simpa using h0)
    have HR := Lib.hid (show r.rm.sync s = (r1.rm, 130) by unfold Rm.sync Rm.call; rw [if_pos (show r.rm.left = 0 from h0), hM])
    rw [hd] at HC
    have HB := Lib.hid (And.intro hB hO)
    clear hcall hd h0 hB hO hM hfs hF hon hroom h
    go_enter Try.func38, Try.ntmps38
    go_wp2_with (go_at_call 56; refine HC.out.mono ?_; rintro e w1 ⟨rfl, h1, k1⟩; have H1 := Lib.hid (And.intro h1 k1); clear h1 k1)
    go_ret
    exact RRes.later H1.out.2 HB.out.1 (fun i hi => .inl (HB.out.2 ▸ hi)) (RRes.same H1.out.1 (Below.refl _ _) HR.out)
  · have hd : decide (r.left ≠ 0) = true := decide_eq_true (by simpa using h0)
    have hX : r.rm.sync s = r1.rm.found s fun k => ({ r1.rm with fs := modV r1.rm.fs k syncV }, 0) := by unfold Rm.sync Rm.call; rw [if_neg (show ¬ r.rm.left = 0 from h0), hM]
    rw [hd] at HC
    have HB := Lib.hid (And.intro hB hO)
    cases hix : idxR (rvs r1.fs) s with
    | none =>
      have HR := Lib.hid (show r.rm.sync s = (r1.rm, 131) by rw [hX]; unfold Rm.found; rw [show r1.rm.fs = rvs r1.fs from rfl, hix])
      have HF := Lib.hid (fun W (hW : RkAt W r1) => rfind_b hW hB s (z := -1) (by rw [hix]; rfl))
      clear hcall hd h0 hB hO hM hfs hF hon hroom h hX hix
      go_enter Try.func38, Try.ntmps38
      go_wp2_with (first
        | (go_at_call 56; refine HC.out.mono ?_; rintro e w1 ⟨rfl, h1, k1⟩; have H1 := Lib.hid (And.intro h1 k1); clear h1 k1)
        | (go_at_call 57; refine (HF.out _ H1.out.1).mono ?_; rintro e w2 ⟨rfl, rfl⟩))
      go_ret
      exact RRes.later H1.out.2 HB.out.1 (fun i hi => .inl (HB.out.2 ▸ hi)) (RRes.same H1.out.1 (Below.refl _ _) HR.out)
    | some k =>
      have HR := Lib.hid (show r.rm.sync s = ({ r1.rm with fs := modV r1.rm.fs k syncV }, 0) by rw [hX]; unfold Rm.found; rw [show r1.rm.fs = rvs r1.fs from rfl, hix])
      have HF := Lib.hid (fun W (hW : RkAt W r1) => rfind_b hW hB s (z := k) (by rw [hix]; rfl))
      obtain ⟨v, hv, _⟩ := idxR_some hix
      obtain ⟨f, hf, rfl⟩ := rvs_got hv
      have hlt : k < r1.fs.length := (List.getElem?_eq_some_iff.1 hf).1
      have h64 : r1.fs.length ≤ 64 := by rw [hfs]; exact h.many
      have HG := Lib.hid hf
      clear hcall hd h0 hO hM hfs hF hon hroom h hX hix hv hf
      go_enter Try.func38, Try.ntmps38
      go_upto_region 7 with (first
        | (go_at_call 56; refine HC.out.mono ?_; rintro e w1 ⟨rfl, h1, k1⟩; have H1 := Lib.hid (And.intro h1 k1); clear h1 k1)
        | (go_at_call 57; refine (HF.out _ H1.out.1).mono ?_; rintro e w2 ⟨rfl, rfl⟩))
      obtain ⟨g, c, hF, c1, f0, f1, f2, ff, hg⟩ := H1.out.1.file HG.out
      have HFF := Lib.hid hF
      have e2 := ff (k * 3 + 2)
      rw [hB] at c1
      clear f0 ff hg hF hB
      go_region
      all_goals go_wp2
      all_goals go_ret
      all_goals (rw [HR.out]; exact RRes.later H1.out.2 HB.out.1 (fun i hi => .inl (HB.out.2 ▸ hi)) (RRes.drew (rsync_at H1.out.1 HG.out HFF.out)))
end Go.Proofs.Ytkieacidpiffpaa
