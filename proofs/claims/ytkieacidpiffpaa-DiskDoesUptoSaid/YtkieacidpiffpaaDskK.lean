/- Crash. -/
import Derived.Test.YtkieacidpiffpaaDskJ
namespace Go.Proofs.Ytkieacidpiffpaa
open Go Go.RowKit Go.Shelf
set_option linter.unusedVariables false
set_option linter.unusedSimpArgs false

def crashL (k : Int) (fs : List Vw) (lf : ByteArray → Bool) : List Vw := fs.map fun v => if lf v.name = true then v else crashV k v
structure CrSt (k : Int) (w : World) (d : Dk) (lf : ByteArray → Bool) (cnt : Nat) (cur : List Fl) (W : World) : Prop where
  rng : Rng W d.M w.heap.size cur lf cnt
  at_ : DkAt W { d with fs := cur }
  vs : vws cur = crashL k (vws d.fs) lf
  kp : Kp d.own w W
  own : ∀ i, ({ d with fs := cur } : Dk).own i → (d.own i ∧ i < w.heap.size) ∨ w.heap.size < i
  lt : w.heap.size < W.heap.size
theorem crashL_step {k : Int} {fs : List Vw} {lf : ByteArray → Bool} {s : ByteArray} (h : lf s = true) : updV (crashL k fs lf) s (crashV k) = crashL k fs fun t => lf t && !decide (t = s) := by
  unfold updV crashL
  rw [List.map_map]
  refine List.map_congr_left fun v hv => ?_
  show (if (if lf v.name = true then v else crashV k v).name = s then crashV k (if lf v.name = true then v else crashV k v) else (if lf v.name = true then v else crashV k v)) = _
  by_cases e : v.name = s
  · subst e
    simp [h]
  · have : (if lf v.name = true then v else crashV k v).name = v.name := by split <;> rfl
    rw [this, if_neg e]
    simp [e]
theorem CrSt.step {k : Int} {w W W1 W2 : World} {d : Dk} {lf : ByteArray → Bool} {cnt cnt1 : Nat} {cur : List Fl} {f : Fl} {e : Ending} (h : CrSt k w d lf cnt cur W) (hf : lookF cur f.vw.name = some f) (hlf : lf f.vw.name = true) (hrg : Rng W1 d.M w.heap.size cur (fun s => lf s && !decide (s = f.vw.name)) cnt1)
    (hk1 : ∀ i, i < W.heap.size → i ≠ w.heap.size → W1.heap[i]? = W.heap[i]?) (hkp : Kp (fun i => i = w.heap.size) W W1) (hs : W1.heap.size = W.heap.size) (ho : FOut f (crashV k f.vw) W1 e W2) : e = .returned (.tuple #[]) ∧ ∃ cur2, CrSt k w d (fun s => lf s && !decide (s = f.vw.name)) cnt1 cur2 W2 := by
  obtain ⟨he, row', h1, h2, h3⟩ := ho
  obtain ⟨hm, _⟩ := lookF_some hf
  have hr : ∀ i, ({ d with fs := cur } : Dk).own i → i ≠ w.heap.size := fun i hi e => by
    rcases h.own i hi with ⟨_, h4⟩ | h4 <;> omega
  have hat1 : DkAt W1 { d with fs := cur } := h.at_.keep fun i hi => hk1 i (h.at_.lt hi) (hr i hi)
  have hlen : (crashV k f.vw).has.length ≤ f.vw.has.length := by show (f.vw.has.take _).length ≤ _; rw [List.length_take]; omega
  have hsz := sizes_upd (f' := ⟨crashV k f.vw, f.blk, row'⟩) hat1.names hf
  have hupd := hat1.upd (f := f) (f' := ⟨crashV k f.vw, f.blk, row'⟩) hf rfl h1 h2.block h3 (by
    show sizes (vws (updF cur f.vw.name ⟨crashV k f.vw, f.blk, row'⟩)) ≤ d.room
    have h5 := hat1.used
    simp only at hsz h5
    omega)
  have hfo := hat1.off f hm
  have hsW := h.lt
  refine ⟨he, updF cur f.vw.name ⟨crashV k f.vw, f.blk, row'⟩, ⟨?_, hupd, ?_, ?_, fun i hi => ?_, ?_⟩⟩
  · have hr2 := hrg.of_eq (w' := W2) (h2.block _ hat1.mlt hfo.2) (h2.block _ (by omega) fun h5 => hr _ (.inr (.inr ⟨f, hm, h5⟩)) rfl)
    exact hr2.upd (f' := ⟨crashV k f.vw, f.blk, row'⟩) hf rfl
  · rw [vws_upd hat1.names hf (f' := ⟨crashV k f.vw, f.blk, row'⟩) (g := crashV k) rfl, h.vs, crashL_step hlf]
  · have h5 : Kp d.own w W1 := ⟨hkp.os.trans h.kp.os, hkp.tape.trans h.kp.tape, hkp.output.trans h.kp.output, by have := h.kp.size; omega, fun i hi hn => (hk1 i (by omega) (by omega)).trans (h.kp.block i hi hn)⟩
    refine h5.trans h2 fun i hi => ?_
    rcases h.own i (.inr (.inr ⟨f, hm, hi⟩)) with ⟨h6, _⟩ | h6
    · exact .inl h6
    · exact .inr (by omega)
  · rcases hi with hi | hi | ⟨g, hg2, hi⟩
    · exact h.own i (.inl hi)
    · exact h.own i (.inr (.inl hi))
    · obtain ⟨x, hx, rfl⟩ := List.mem_map.1 hg2
      split at hi
      · rcases h3 i hi with h6 | h6
        · exact h.own i (.inr (.inr ⟨f, hm, h6⟩))
        · exact .inr (by omega)
      · exact h.own i (.inr (.inr ⟨x, hx, hi⟩))
  · have := h2.size; omega
theorem crashL_start {k : Int} {fs : List Fl} : crashL k (vws fs) (fun s => (lookF fs s).isSome) = vws fs := by
  unfold crashL vws
  rw [List.map_map]
  refine List.map_congr_left fun f hf => ?_
  show (if (lookF fs f.vw.name).isSome = true then f.vw else _) = f.vw
  rw [if_pos]
  cases h : lookF fs f.vw.name with
  | none => exact absurd rfl (lookF_none h f hf)
  | some _ => rfl
theorem crashL_end {k : Int} {fs : List Vw} {lf : ByteArray → Bool} (h : ∀ s, lf s = false) : crashL k fs lf = fs.map (crashV k) := by
  unfold crashL
  refine List.map_congr_left fun v _ => ?_
  rw [h]; rfl
def CrashOut (k : Int) (d : Dk) (w : World) (e : Ending) (w' : World) : Prop :=
  e = .returned (.tuple #[]) ∧ ∃ d', DkAt w' d' ∧ d'.md = d.md.crash k ∧ d'.B = d.B ∧ Kp d.own w w' ∧ ∀ i, d'.own i → d.own i ∨ w.heap.size ≤ i
set_option maxHeartbeats 1000000 in
theorem crash_any {w : World} {d : Dk} (h : DkAt w d) (k : Int) (hk : -9223372036854775808 ≤ k ∧ k ≤ 9223372036854775807) : Calls Try.prog 15 #[.pointer (some ⟨d.B, 0, none⟩), .int .i64 k] w (CrashOut k d w) := by
  obtain ⟨c0, c1, c2, c3, cf⟩ := h.cells
  have H := Lib.hid h
  have HK := Lib.hid hk
  clear c0 c2 c3 cf h hk
  go_enter Try.func15, Try.ntmps15
  go_wp2_with (first | (at_range; refine wpList_range_dk _ rfl _ rfl rfl H.out ?_; intro w0 hrg0 hb0 hs0) | go_in)
  go_frame
  go_loopw [5] (fun _ W => ∃ lf cnt cur, CrSt k w d lf cnt cur W) (fun _ W => W.rangeLeft d.M w.heap.size)
  case atStart => exact ⟨_, _, d.fs, hrg0, H.out.below hb0, crashL_start.symm, Kp.of_below hb0, fun i hi => .inl ⟨hi, H.out.lt hi⟩, by omega⟩
  case round =>
    obtain ⟨lf, cnt, cur, hst⟩ := hrel
    have HST := Lib.hid hst
    clear hst
    go_wp2_with (first | (at_next; refine wpList_next_dk _ rfl _ rfl rfl HST.out.rng ?_ ?_) | go_in)
    · intro hl0
      have HE := Lib.hid (crashL_end (k := k) (fs := vws d.fs) hl0)
      clear hl0
      have HFU := Lib.hid (full_any HST.out.at_ false)
      go_wp2_with (first
        | (go_at_call 37; refine HFU.out.mono ?_; rintro e w1 ⟨rfl, hat1, hk1⟩; have H1 := Lib.hid (And.intro hat1 hk1); have HHA := Lib.hid (halt_any hat1 (-1) (by decide)); clear hat1 hk1)
        | (go_at_call 21; refine HHA.out.mono ?_; rintro e w2 ⟨rfl, hat2, hk2⟩; have H2 := Lib.hid (And.intro hat2 hk2); clear hat2 hk2))
      go_end0
      refine ⟨rfl, _, H2.out.1, ?_, rfl, (HST.out.kp.trans H1.out.2 fun i hi => ?_).trans H2.out.2 fun i hi => ?_, fun i hi => ?_⟩
      · show Md.mk _ _ _ _ = Md.mk _ _ _ _
        rw [HST.out.vs, HE.out]; rfl
      all_goals
        rcases HST.out.own i hi with ⟨h6, _⟩ | h6
        · exact .inl h6
        · exact .inr (by omega)
    · intro f w1 cnt1 hf hlf hrg1 hlt hk1 hkp hs1 hen
      have hr : f.blk ≠ w.heap.size := fun e => by
        rcases HST.out.own f.blk (.inr (.inr ⟨f, (lookF_some hf).1, .inl rfl⟩)) with ⟨_, h4⟩ | h4 <;> omega
      have hat := HST.out.at_.files f (lookF_some hf).1
      have hle : f.vw.has.length ≤ sizes (vws cur) := sizes_mem (f := f.vw) (List.mem_map.2 ⟨f, (lookF_some hf).1, rfl⟩)
      have hu := HST.out.at_.used
      have hrm := HST.out.at_.room
      have hat1 : FlAt w1 f := hat.keep fun i hi => hk1 i (hat.lt hi) fun e => by
        rcases HST.out.own i (.inr (.inr ⟨f, (lookF_some hf).1, hi⟩)) with ⟨_, h4⟩ | h4 <;> omega
      have HC := Lib.hid (fcrash_any hat1 k HK.out (by simp only at hu hrm; omega))
      have HN := Lib.hid (fun e W2 (ho : FOut f (crashV k f.vw) w1 e W2) => HST.out.step hf hlf hrg1 hk1 hkp hs1 ho)
      have HLT := Lib.hid hlt
      clear hf hlf hrg1 hlt hk1 hkp hs1 hr hat hle hu hrm hat1
      go_wp2_with (go_at_call 36; refine HC.out.mono ?_; intro e w2 ho; obtain ⟨rfl, cur2, h9⟩ := HN.out e w2 ho; have HX := Lib.hid h9; clear h9 ho)
      go_roundw
      case rel => exact ⟨_, _, _, HX.out⟩
      case measure => rw [HX.out.rng.left_eq, HST.out.rng.left_eq]; exact HLT.out
end Go.Proofs.Ytkieacidpiffpaa
