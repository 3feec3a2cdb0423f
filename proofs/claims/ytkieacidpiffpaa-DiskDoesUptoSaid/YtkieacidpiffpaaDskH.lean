/- A change of a disk's file: Sync, Cut. -/
import Derived.Test.YtkieacidpiffpaaDskG
namespace Go.Proofs.Ytkieacidpiffpaa
open Go Go.RowKit Go.Shelf
set_option linter.unusedVariables false
set_option linter.unusedSimpArgs false

def Md.found (m : Md) (s : ByteArray) (g : Md → Md × Int) : Md × Int := match m.look s with | none => (m, 131) | some _ => g m
theorem found_none {d : Dk} {s : ByteArray} (h : lookF d.fs s = none) (g : Md → Md × Int) : d.md.found s g = (d.md, 131) := by
  have : d.md.look s = none := by show (vws d.fs).find? _ = _; rw [look_vws, h]; rfl
  unfold Md.found; rw [this]
theorem found_some {d : Dk} {s : ByteArray} {f : Fl} (h : lookF d.fs s = some f) (g : Md → Md × Int) : d.md.found s g = g d.md ∧ d.md.look s = some f.vw := by
  have : d.md.look s = some f.vw := by show (vws d.fs).find? _ = _; rw [look_vws, h]; rfl
  unfold Md.found; rw [this]; exact ⟨rfl, rfl⟩
set_option maxHeartbeats 1000000 in
theorem chgc_any {w : World} {d : Dk} (h : DkAt w d) (p0 p1 p2 G : Nat) (lb : Array Value) (eg : ∀ args w, (callFunc G args).run Try.prog w = .ok (.enter G args) w) (s : ByteArray) (hs : s.size ≤ maxLen)
    (q0 : w.cell? ⟨p0, 0, none⟩ = some (.pointer (some ⟨d.B, 0, none⟩))) (q1 : w.cell? ⟨p1, 0, none⟩ = some (.string s)) (q2 : w.cell? ⟨p2, 0, none⟩ = some (.func (.func G) #[] lb)) (g : Md → Md × Int)
    (hdo : ∀ f W, lookF d.fs s = some f → DkAt W d → Below w.heap.size w W → Calls Try.prog G (#[.pointer (some ⟨f.blk, 0, none⟩)] ++ lb) W (Res d W (g d.md))) :
    Calls Try.prog 55 #[.pointer (some ⟨p0, 0, none⟩), .pointer (some ⟨p1, 0, none⟩), .pointer (some ⟨p2, 0, none⟩)] w (Res d w (d.md.found s g)) := by
  obtain ⟨c0, c1, c2, c3, cf⟩ := h.cells
  have H := Lib.hid h
  have HD := Lib.hid hdo
  have HQ := Lib.hid (And.intro q0 (And.intro q1 q2))
  have hlook := fun n => (show DkAt (w.drewN n) d from h.keep fun _ _ => rfl).look (s := s) hs
  clear c0 c2 c3 cf h hdo hs q2
  go_enter Try.func55, Try.ntmps55
  go_upto_region 1 with fail
  go_cut [4] (fun v W => v = ptrV ((lookF d.fs s).map Fl.blk) ∧ Below w.heap.size w W)
  case first =>
    go_quiet (fail)
    go_wp2_with fail
    go_meet
    exact ⟨rfl, below_drewN (Below.refl _ _) _⟩
  case rest =>
    obtain ⟨rfl, hb2⟩ := hcut
    have q2 := (hb2.cell (World.block_lt_of_cell? w _ HQ.out.2.2)).trans HQ.out.2.2
    have HB := Lib.hid hb2
    clear hb2 hlook q0 q1 c1
    cases hlk : lookF d.fs s with
    | none =>
      have HR := Lib.hid (found_none hlk g)
      rw [Option.map_none]
      unfold ptrV
      rw [Option.map_none]
      go_wp2
      go_ret
      exact Res.same H.out HB.out HR.out
    | some f =>
      have HR := Lib.hid (found_some hlk g).1
      have HF := Lib.hid (HD.out f wc hlk (H.out.below HB.out) HB.out)
      rw [Option.map_some]
      unfold ptrV
      rw [Option.map_some]
      go_wp2_with (go_at_fn G; refine HF.out.mono ?_; intro e w1 hq; have hq2 : Res d w _ e w1 := Res.later (d := d) (Kp.of_below HB.out) rfl (fun i hi => .inl hi) hq; obtain ⟨rfl, hq3⟩ := hq2; have HX := Lib.hid hq3; clear hq hq3)
      go_ret
      rw [HR.out]
      exact ⟨rfl, HX.out⟩
set_option maxHeartbeats 1000000 in
theorem change_any {w : World} {d : Dk} (h : DkAt w d) (G : Nat) (lb : Array Value) (eg : ∀ args w, (callFunc G args).run Try.prog w = .ok (.enter G args) w) (s : ByteArray) (hs : s.size ≤ maxLen) (g : Md → Md × Int)
    (hdo : ∀ l f W, lookF d.fs s = some f → DkAt W { d with left := l } → Kp d.own w W → Calls Try.prog G (#[.pointer (some ⟨f.blk, 0, none⟩)] ++ lb) W (Res { d with left := l } W (g ({ d with left := l } : Dk).md))) :
    Calls Try.prog 30 #[.pointer (some ⟨d.B, 0, none⟩), .string s, .func (.func G) #[] lb] w (Res d w (d.md.call fun m => m.found s g)) := by
  have hmf := mk_func
  have H1 := h.alloc (.cells #[.pointer (some ⟨d.B, 0, none⟩)] 24)
  have H2 := H1.alloc (.cells #[.string s] 9)
  have H3 := H2.alloc (.cells #[.func (.func G) #[] lb] 69)
  have q0 := cell_alloc (.cells #[.func (.func G) #[] lb] 69) (cell_alloc (.cells #[.string s] 9) (box_cell w 24 (.pointer (some ⟨d.B, 0, none⟩))))
  have q1 := cell_alloc (.cells #[.func (.func G) #[] lb] 69) (box_cell (w.alloc (.cells #[.pointer (some ⟨d.B, 0, none⟩)] 24)) 9 (.string s))
  have q2 := box_cell ((w.alloc (.cells #[.pointer (some ⟨d.B, 0, none⟩)] 24)).alloc (.cells #[.string s] 9)) 69 (.func (.func G) #[] lb)
  have o0 : ¬ d.own w.heap.size := h.not_own (Nat.le_refl _)
  have o1 : ¬ d.own (w.heap.size + 1) := h.not_own (by omega)
  have o2 : ¬ d.own (w.heap.size + 1 + 1) := h.not_own (by omega)
  simp only [World.size_alloc] at q0 q1 q2
  have hk3 := ((Kp.alloc d.own w (.cells #[.pointer (some ⟨d.B, 0, none⟩)] 24)).trans (Kp.alloc d.own _ (.cells #[.string s] 9)) fun i hi => .inl hi).trans (Kp.alloc d.own _ (.cells #[.func (.func G) #[] lb] 69)) fun i hi => .inl hi
  have HK := Lib.hid hk3
  have HC := Lib.hid (call_any H3 55 #[.pointer (some ⟨w.heap.size, 0, none⟩), .pointer (some ⟨w.heap.size + 1, 0, none⟩), .pointer (some ⟨w.heap.size + 1 + 1, 0, none⟩)] (enters_of Try.func55 (by kernel_rfl) rfl) (fun m => m.found s g)
    (fun W l hW hk => chgc_any hW w.heap.size (w.heap.size + 1) (w.heap.size + 1 + 1) G lb eg s hs (hk.cell q0 o0) (hk.cell q1 o1) (hk.cell q2 o2) g
      (fun f W2 hf hat hb => hdo l f W2 hf hat ((hk3.trans hk fun i hi => .inl hi).trans (Kp.of_below (own := d.own) hb) fun i hi => .inl hi))))
  clear H1 H2 H3 q1 q2 q0 o0 o1 o2 hs h hdo hk3
  go_enter Try.func30, Try.ntmps30
  go_wp2_with (go_at_call 27; refine HC.out.mono ?_; intro e w1 hq; have hq2 : Res d w _ e w1 := Res.later (d := d) HK.out rfl (fun i hi => .inl hi) hq; obtain ⟨rfl, hq3⟩ := hq2; have HX := Lib.hid hq3; clear hq hq3)
  go_ret
  exact ⟨rfl, HX.out⟩
end Go.Proofs.Ytkieacidpiffpaa
