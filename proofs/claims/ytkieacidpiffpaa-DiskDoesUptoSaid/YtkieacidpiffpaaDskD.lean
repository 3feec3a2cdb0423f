/- A range over a disk's files; how many bytes they have together. -/
import Derived.Test.YtkieacidpiffpaaDskC
namespace Go.Proofs.Ytkieacidpiffpaa
open Go Go.RowKit
set_option linter.unusedVariables false
set_option linter.unusedSimpArgs false

/-- A range over the map, under way: lf says of which names the files are still to come. -/
def Rng (w : World) (M r : Nat) (fs : List Fl) (lf : ByteArray → Bool) (cnt : Nat) : Prop :=
  ∃ D left n, w.ranges Try.prog 9 ptrE M r n D left cnt ∧ Rd D fs ∧ ∀ s, lf s = left (keyL s)
theorem Rng.left_eq {w : World} {M r : Nat} {fs : List Fl} {lf : ByteArray → Bool} {cnt : Nat} (h : Rng w M r fs lf cnt) : w.rangeLeft M r = cnt := by
  obtain ⟨D, left, n, h, _⟩ := h; exact h.left_eq
theorem ranges_of_eq {w w' : World} {M r n : Nat} {D : DataW Unit} {left : Lit → Bool} {cnt : Nat} (h : w.ranges Try.prog 9 ptrE M r n D left cnt) (h1 : w'.heap[M]? = w.heap[M]?) (h2 : w'.heap[r]? = w.heap[r]?) : w'.ranges Try.prog 9 ptrE M r n D left cnt := by
  obtain ⟨es, clock, since, seen, c0, hb, F, hs, hD, hr, rest⟩ := h
  exact ⟨es, clock, since, seen, c0, h1.trans hb, F, hs, hD, h2.trans hr, rest⟩
theorem Rng.of_eq {w w' : World} {M r : Nat} {fs : List Fl} {lf : ByteArray → Bool} {cnt : Nat} (h : Rng w M r fs lf cnt) (h1 : w'.heap[M]? = w.heap[M]?) (h2 : w'.heap[r]? = w.heap[r]?) : Rng w' M r fs lf cnt := by
  obtain ⟨D, left, n, h, hr, hl⟩ := h; exact ⟨D, left, n, ranges_of_eq h h1 h2, hr, hl⟩
theorem Rng.upd {w : World} {M r : Nat} {fs : List Fl} {lf : ByteArray → Bool} {cnt : Nat} (h : Rng w M r fs lf cnt) {f f' : Fl} (hl : lookF fs f'.vw.name = some f) (hb : f'.blk = f.blk) : Rng w M r (updF fs f'.vw.name f') lf cnt := by
  obtain ⟨D, left, n, h, hr, hl'⟩ := h; exact ⟨D, left, n, h, hr.upd hl hb, hl'⟩
theorem Rng.lt {w : World} {M r : Nat} {fs : List Fl} {lf : ByteArray → Bool} {cnt : Nat} (h : Rng w M r fs lf cnt) : r < w.heap.size := by obtain ⟨D, left, n, h, _⟩ := h; exact h.lt
section
variable (w : World) {ops : Array Oper} {rest : List Oper} {o : Oper} {a : Act} {Q : Exit → Act → World → Prop}
theorem wpList_range_dk (hg : o.guard = none) (m : Operand) (hop : o.op = Op.range 53 m) {d : Dk} (hm : a.eval m = .map (some d.M)) (h : DkAt w d)
    (hK : ∀ w', Rng w' d.M w.heap.size d.fs (fun s => (lookF d.fs s).isSome) d.fs.length → Below w.heap.size w w' → w'.heap.size = w.heap.size + 1 → wpList Try.prog ops Q rest (a.put o.dst (.pointer (some ⟨w.heap.size, 0, none⟩))) w') :
    wpList Try.prog ops Q (o :: rest) a w := by
  obtain ⟨D, hown, hr⟩ := h.map
  refine wpList_range_own w hg m _ hop _ _ lawS Try.underlying53 _ _ _ D hm hown fun w' h1 h2 h3 => hK w' ⟨D, _, _, hr.size ▸ h1, hr, fun s => (hr.has s).symm⟩ ⟨h2.os, h2.tape, h2.output, h2.size, fun k hk => h2.block k hk (by simp)⟩ h3
theorem wpList_next_dk (hg : o.guard = none) (it : Operand) (hop : o.op = Op.next it false) {M r cnt : Nat} {fs : List Fl} {lf : ByteArray → Bool} (hit : a.eval it = .pointer (some ⟨r, 0, none⟩)) (h : Rng w M r fs lf cnt)
    (hDone : (∀ s, lf s = false) → wpList Try.prog ops Q rest (a.put o.dst (.tuple #[.bool false])) w)
    (hMore : ∀ (f : Fl) (w' : World) (cnt' : Nat), lookF fs f.vw.name = some f → lf f.vw.name = true → Rng w' M r fs (fun s => lf s && !decide (s = f.vw.name)) cnt' → cnt' < cnt → (∀ k, k < w.heap.size → k ≠ r → w'.heap[k]? = w.heap[k]?) → Kp (fun i => i = r) w w' → w'.heap.size = w.heap.size →
      (Instr.entry (.pointer (some ⟨r, 0, none⟩))).run Try.prog w' = .ok (.tuple #[.string f.vw.name, .pointer (some ⟨f.blk, 0, none⟩)]) w' → wpList Try.prog ops Q rest (a.put o.dst (.tuple #[.bool true, .string f.vw.name, .pointer (some ⟨f.blk, 0, none⟩)])) w') :
    wpList Try.prog ops Q (o :: rest) a w := by
  obtain ⟨D, left, n, hrg, hr, hl⟩ := h
  refine wpList_next_ranges w hg it hop _ lawS ptrE (fun s : ByteArray => Value.string s) ptrV (fun key kl hk => by obtain ⟨s, e, _⟩ := WideMaps.string_of_keyOf Try.underlying9 hk; exact ⟨s, e⟩) (fun v y hv => by obtain ⟨c, e, _⟩ := ptrE_inv hv; exact ⟨c, e⟩) M r n D left cnt hit hrg
    (fun _ h0 => hDone fun s => by rw [hl, h0]) fun x c kl y w' cnt' hkey hlk hv hat hrg' hlt hgr hsz hen => ?_
  obtain ⟨x', ex, rfl, _⟩ := WideMaps.string_of_keyOf Try.underlying9 hkey
  simp only [Value.string.injEq] at ex
  subst ex
  have hfind : ∃ f, lookF fs x = some f ∧ y.1 = .lit (.int .i64 f.blk) := by
    cases hf : lookF fs x with
    | none =>
      have h1 := hr.at_ x .nil
      have h2 := hr.at_ x (.lit (.bool true))
      rw [hf] at h1 h2
      have e1 := (hat .nil).symm.trans h1
      have e2 := (hat (.lit (.bool true))).symm.trans h2
      rw [e1] at e2; cases e2
    | some f =>
      have h1 := hr.at_ x .nil
      rw [hf] at h1
      exact ⟨f, rfl, (hat .nil).symm.trans h1⟩
  obtain ⟨f, hf, hy⟩ := hfind
  obtain ⟨c', ec, hc⟩ := ptrE_inv hv
  have e3 : c' = some f.blk := by
    rw [hy] at hc
    cases c' with
    | none => cases hc
    | some b =>
      simp only [DataW.lit.injEq, Lit.int.injEq, true_and] at hc
      rw [show b = f.blk by omega]
  rw [ec, e3] at hen
  have hn := (lookF_some hf).2
  subst hn
  rw [ec, e3]
  refine hMore f w' cnt' hf (by rw [hl]; exact hlk) ⟨D, _, n, hrg', hr, fun s => ?_⟩ hlt (fun k hk hne => hgr.block k hk fun e => hne (by simpa using e)) ⟨hgr.os, hgr.tape, hgr.output, hgr.size, fun k hk hne => hgr.block k hk fun e => hne (by simpa using e)⟩ hsz hen
  show (lf s && !decide (s = f.vw.name)) = (left (keyL s) && !(keyL s).sameKey (keyL f.vw.name))
  have hk : (keyL s).sameKey (keyL f.vw.name) = decide (s = f.vw.name) := by
    by_cases e : s = f.vw.name
    · subst e
      rw [WideAt.sameKey_self (show WideAt.IsKeyLit (keyL f.vw.name) from True.intro)]; simp
    · rw [Maps.sameKey_ne (fun e2 => e (keyL_inj e2))]; simp [e]
  rw [hk, hl]
end
/-- The bytes of those that have come. -/
def came (fs : List Fl) (lf : ByteArray → Bool) : Nat := sizes (vws (fs.filter fun f => !lf f.vw.name))
theorem came_none {fs : List Fl} : came fs (fun s => (lookF fs s).isSome) = 0 := by
  unfold came
  have : fs.filter (fun f => !(lookF fs f.vw.name).isSome) = [] := by
    rw [List.filter_eq_nil_iff]
    intro f hf h
    rw [Bool.not_eq_true', Option.isSome_eq_false_iff, Option.isNone_iff_eq_none] at h
    exact lookF_none h f hf rfl
  rw [this]; rfl
theorem came_all {fs : List Fl} {lf : ByteArray → Bool} (h : ∀ s, lf s = false) : came fs lf = sizes (vws fs) := by
  unfold came
  rw [List.filter_eq_self.2 fun f _ => by simp [h]]
theorem came_le (fs : List Fl) (lf : ByteArray → Bool) : came fs lf ≤ sizes (vws fs) := sizes_filter _ _
theorem came_step {fs : List Fl} (hp : fs.Pairwise fun f g => f.vw.name ≠ g.vw.name) {f : Fl} (hl : lookF fs f.vw.name = some f) {lf : ByteArray → Bool} (hf : lf f.vw.name = true) :
    came fs (fun s => lf s && !decide (s = f.vw.name)) = came fs lf + f.vw.has.length := by
  have hm := (lookF_some hl).1
  clear hl
  unfold came
  induction fs with
  | nil => cases hm
  | cons a r ih =>
    obtain ⟨h1, h2⟩ := List.pairwise_cons.1 hp
    rcases List.mem_cons.1 hm with rfl | hm
    · have hr : r.filter (fun g => !(lf g.vw.name && !decide (g.vw.name = f.vw.name))) = r.filter (fun g => !lf g.vw.name) := List.filter_congr fun g hg => by
        have hd : decide (g.vw.name = f.vw.name) = false := decide_eq_false fun e => h1 g hg e.symm
        rw [hd]; simp
      rw [List.filter_cons, List.filter_cons, hr]
      simp only [decide_true, Bool.not_true, Bool.and_false, Bool.not_false, if_true, hf, Bool.false_eq_true, if_false]
      show sizes (f.vw :: vws _) = _
      rw [sizes_cons]; omega
    · have hne := h1 f hm
      have : sizes (vws (r.filter fun g => !(lf g.vw.name && !decide (g.vw.name = f.vw.name)))) = sizes (vws (r.filter fun g => !lf g.vw.name)) + f.vw.has.length := ih h2 hm
      rw [List.filter_cons, List.filter_cons]
      simp only [hne, decide_false, Bool.not_false, Bool.and_true]
      split
      · show sizes (a.vw :: vws _) = sizes (a.vw :: vws _) + _
        rw [sizes_cons, sizes_cons]; omega
      · exact this
def UsedRel (w : World) (d : Dk) (v : Value) (W : World) : Prop := ∃ lf cnt, Rng W d.M w.heap.size d.fs lf cnt ∧ v = .int .i64 (came d.fs lf : Nat) ∧ Below w.heap.size w W
set_option maxHeartbeats 1000000 in
theorem used_any {w : World} {d : Dk} (h : DkAt w d) : Calls Try.prog 16 #[.pointer (some ⟨d.B, 0, none⟩)] w fun e w' => e = .returned (.int .i64 (sizes (vws d.fs) : Nat)) ∧ Below w.heap.size w w' := by
  obtain ⟨c0, c1, c2, c3, cf⟩ := h.cells
  have H := Lib.hid h
  clear c0 c2 c3 cf h
  go_enter Try.func16, Try.ntmps16
  go_wp2_with (first | (at_range; refine wpList_range_dk _ rfl _ rfl rfl H.out ?_; intro w0 hrg0 hb0 hs0) | go_in)
  go_frame
  go_loopw [3] (fun v W => UsedRel w d v W) (fun _ W => W.rangeLeft d.M w.heap.size)
  case atStart => exact ⟨_, _, hrg0, by rw [came_none]; rfl, hb0⟩
  case round =>
    obtain ⟨lf, cnt, hrg, rfl, hb⟩ := hrel
    have hle := came_le d.fs lf
    have h1 := H.out.used
    have h2 := H.out.room
    have HL := Lib.hid (And.intro hle (And.intro h1 h2))
    have HR := Lib.hid hrg
    have HB := Lib.hid hb
    clear hle h1 h2 hrg hb
    go_wp2_with (first | (at_next; refine wpList_next_dk _ rfl _ rfl rfl HR.out ?_ ?_) | go_in)
    · intro hl0
      go_wp2
      go_ret
      exact ⟨by rw [came_all hl0]; rfl, HB.out⟩
    · intro f w1 cnt1 hf hlf hrg1 hlt hk1 hkp hs1 hen
      have hfm := H.out.files f (lookF_some hf).1
      have hne : f.blk ≠ w.heap.size := fun e => by have := hfm.box.lt; omega
      have e1 : w1.heap[f.blk]? = w.heap[f.blk]? := (hk1 _ (Nat.lt_of_lt_of_le hfm.box.lt HB.out.size) hne).trans (HB.out.block _ hfm.box.lt)
      have hbx := hfm.box.of_eq e1
      have hb1 : Below w.heap.size w w1 := HB.out.trans (hkp.below HB.out.size fun i hi => Nat.le_of_eq hi.symm)
      have hst := came_step H.out.names hf hlf
      obtain ⟨A, c, hrow, hc, _⟩ := own_bytes hfm.row rfl
      have p0 : w1.cell? ⟨f.blk, 0, none⟩ = some (.slice A f.vw.has.length c) := by rw [hbx.cell]; show some f.row = _; rw [hrow]
      have hle1 := came_le d.fs (fun s => lf s && !decide (s = f.vw.name))
      rw [hst] at hle1
      obtain ⟨_, hu, hr⟩ := HL.out
      have b1 : ((came d.fs lf : Nat) : Int) + (f.vw.has.length : Nat) ≤ 9223372036854775807 := by omega
      have HX := Lib.hid (And.intro hrg1 (And.intro hb1 (And.intro hst hlt)))
      clear hf hlf hrg1 hlt hk1 hkp hs1 hfm hne e1 hbx hb1 hst hrow hc hle1 hu hr HL
      go_wp2
      go_roundw
      case rel => exact ⟨_, _, HX.out.1, by rw [HX.out.2.2.1]; go_num, HX.out.2.1⟩
      case measure => rw [HX.out.1.left_eq, HR.out.left_eq]; exact HX.out.2.2.2
end Go.Proofs.Ytkieacidpiffpaa
