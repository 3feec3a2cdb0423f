/- The four calls of a disk: counted, or not done. -/
import Derived.Test.YtkieacidpiffpaaDskF
import Derived.Shelf.Abstract
namespace Go.Proofs.Ytkieacidpiffpaa
open Go Go.RowKit Go.Shelf
set_option linter.unusedVariables false
set_option linter.unusedSimpArgs false

theorem Res.later {d d1 : Dk} {w W w' : World} {r : Md × Int} {e : Ending} (hk : Kp d.own w W) (hB : d1.B = d.B) (ho : ∀ i, d1.own i → d.own i ∨ w.heap.size ≤ i) (h : Res d1 W r e w') : Res d w r e w' := by
  obtain ⟨he, d', h1, h2, h3, h4, h5⟩ := h
  refine ⟨he, d', h1, h2, h3.trans hB, hk.trans h4 ho, fun i hi => ?_⟩
  rcases h5 i hi with h6 | h6
  · exact ho i h6
  · exact .inr (Nat.le_trans hk.size h6)
set_option maxHeartbeats 1000000 in
theorem call_any {w : World} {d : Dk} (h : DkAt w d) (G : Nat) (lb : Array Value) (eg : ∀ args w, (callFunc G args).run Try.prog w = .ok (.enter G args) w) (g : Md → Md × Int)
    (hc : ∀ W l, DkAt W { d with left := l } → Kp d.own w W → Calls Try.prog G lb W (Res { d with left := l } W (g ({ d with left := l } : Dk).md))) :
    Calls Try.prog 27 #[.pointer (some ⟨d.B, 0, none⟩), .func (.func G) #[] lb] w (Res d w (d.md.call g)) := by
  obtain ⟨_, _, _, c3, cf⟩ := h.cells
  have f3 := cf 3
  have HH := Lib.hid (halted_any h)
  have HL := Lib.hid (aload c3)
  have H := Lib.hid h
  have HC := Lib.hid hc
  have hl := h.left
  clear h hc cf
  by_cases h0 : d.left = 0
  · have HR := Lib.hid (show d.md.call g = (d.md, 130) from if_pos h0)
    have hd : decide (d.left = 0) = true := decide_eq_true h0
    rw [hd] at HH
    clear hd h0 HC HL
    go_enter Try.func27, Try.ntmps27
    go_wp2_with (go_at_call 24; refine HH.out.mono ?_; rintro e w1 ⟨rfl, rfl⟩)
    go_ret
    exact Res.same H.out (Below.refl _ _) HR.out
  · have hd : decide (d.left = 0) = false := decide_eq_false h0
    rw [hd] at HH
    by_cases h1 : d.left = -1
    · have HR := Lib.hid (show d.md.call g = g d.md by
        unfold Md.call
        rw [if_neg (show ¬ d.md.left = 0 from h0)]
        unfold Md.tick
        rw [if_neg (by show ¬ 0 < d.left; omega)])
      have HQ := Lib.hid (HC.out w d.left H.out (Kp.refl _ _))
      have hb : (d.left != -1) = false := by rw [h1]; rfl
      clear hd HC h1 h0 hl
      go_enter Try.func27, Try.ntmps27
      go_wp2_with (first
        | (go_at_call 24; refine HH.out.mono ?_; rintro e w1 ⟨rfl, rfl⟩)
        | (go_at_call 51; refine HL.out.mono ?_; rintro e w1 ⟨rfl, rfl⟩)
        | (go_at_fn G; go_loud (refine HQ.out.mono ?_; rintro e w1 ⟨rfl, hq⟩; have HX := Lib.hid hq; clear hq)))
      go_ret
      rw [HR.out]
      exact ⟨rfl, HX.out⟩
    · have hpos : 0 < d.left := by omega
      have HR := Lib.hid (show d.md.call g = g ({ d with left := d.left - 1 } : Dk).md by
        unfold Md.call
        rw [if_neg (show ¬ d.md.left = 0 from h0)]
        unfold Md.tick
        rw [if_pos (show 0 < d.md.left from hpos)]; rfl)
      have hat := H.out.put d.full (d.left - 1) (by omega) (i := 3) (u := .int .i64 (d.left - 1)) rfl
      have hk := Kp.setCell (own := d.own) w ⟨d.B, 3, none⟩ (.int .i64 (d.left - 1)) (.inl rfl)
      have HQ := Lib.hid (HC.out _ (d.left - 1) hat hk)
      have HK := Lib.hid hk
      have HA := Lib.hid (aadd c3 f3 ⟨hpos, hl.2⟩)
      have hb : (d.left != -1) = true := by simpa using h1
      clear hd HC hat hk h1 h0 hl hpos
      go_enter Try.func27, Try.ntmps27
      go_wp2_with (first
        | (go_at_call 24; refine HH.out.mono ?_; rintro e w1 ⟨rfl, rfl⟩)
        | (go_at_call 51; refine HL.out.mono ?_; rintro e w1 ⟨rfl, rfl⟩)
        | (go_at_call 53; refine HA.out.mono ?_; rintro e w1 ⟨⟨v1, rfl⟩, rfl⟩)
        | (go_at_fn G; go_loud (refine HQ.out.mono ?_; intro e w1 hq; have hq2 : Res d w _ e w1 := Res.later (d := d) HK.out rfl (fun i hi => .inl hi) hq; obtain ⟨rfl, hq3⟩ := hq2; have HX := Lib.hid hq3; clear hq hq3)))
      go_ret
      rw [HR.out]
      exact ⟨rfl, HX.out⟩
/-- Blocks that a call lays for what its closure captures. -/
theorem Src.alloc {own : Nat → Prop} {w : World} {A : Option Addr} {bs : List Int} (h : Src own w A bs) (o : Obj) : Src own (w.alloc o) A bs := h.kp (Kp.alloc own w o)
theorem box_cell (w : World) (t : TypeId) (v : Value) : (w.alloc (.cells #[v] t)).cell? ⟨w.heap.size, 0, none⟩ = some v := by simp
theorem Kp.cell {own : Nat → Prop} {w W : World} (k : Kp own w W) {b : Nat} {v : Value} (h : w.cell? ⟨b, 0, none⟩ = some v) (ho : ¬ own b) : W.cell? ⟨b, 0, none⟩ = some v :=
  (World.cell?_of_block (a := ⟨b, 0, none⟩) (k.block b (World.block_lt_of_cell? w _ h) ho)).trans h
theorem DkAt.not_own {w : World} {d : Dk} (h : DkAt w d) {i : Nat} (hi : w.heap.size ≤ i) : ¬ d.own i := fun ho => by have := h.lt ho; omega
theorem mk_func (fn : Fn) (first cap : Array Value) (w : World) : (Instr.makeFunc fn first cap).run Try.prog w = .ok (.func fn first cap) w := rfl
set_option maxHeartbeats 1000000 in
theorem append_any {w : World} {d : Dk} (h : DkAt w d) (A : Option Addr) (c n : Nat) (s : ByteArray) (bs : List Int) (hA : Src d.own w A bs) (hs : s.size ≤ maxLen) (hB : Byte bs) (hl : bs.length ≤ 9223372036854775807) (hn : n = bs.length) :
    Calls Try.prog 11 #[.pointer (some ⟨d.B, 0, none⟩), .string s, .slice A n c] w (Res d w (d.md.append s bs)) := by
  subst hn
  have hmf := mk_func
  have H1 := h.alloc (.cells #[.pointer (some ⟨d.B, 0, none⟩)] 24)
  have H2 := H1.alloc (.cells #[.string s] 9)
  have H3 := H2.alloc (.cells #[.slice A bs.length c] 22)
  have hA3 := ((hA.alloc (.cells #[.pointer (some ⟨d.B, 0, none⟩)] 24)).alloc (.cells #[.string s] 9)).alloc (.cells #[.slice A bs.length c] 22)
  have q0 := cell_alloc (.cells #[.slice A bs.length c] 22) (cell_alloc (.cells #[.string s] 9) (box_cell w 24 (.pointer (some ⟨d.B, 0, none⟩))))
  have q2 := cell_alloc (.cells #[.slice A bs.length c] 22) (box_cell (w.alloc (.cells #[.pointer (some ⟨d.B, 0, none⟩)] 24)) 9 (.string s))
  have q1 := box_cell ((w.alloc (.cells #[.pointer (some ⟨d.B, 0, none⟩)] 24)).alloc (.cells #[.string s] 9)) 22 (.slice A bs.length c)
  have o0 : ¬ d.own w.heap.size := h.not_own (Nat.le_refl _)
  have o1 : ¬ d.own (w.heap.size + 1) := h.not_own (by omega)
  have o2 : ¬ d.own (w.heap.size + 1 + 1) := h.not_own (by omega)
  simp only [World.size_alloc] at q0 q1 q2
  have HK := Lib.hid (((Kp.alloc d.own w (.cells #[.pointer (some ⟨d.B, 0, none⟩)] 24)).trans (Kp.alloc d.own _ (.cells #[.string s] 9)) fun i hi => .inl hi).trans (Kp.alloc d.own _ (.cells #[.slice A bs.length c] 22)) fun i hi => .inl hi)
  have HC := Lib.hid (call_any H3 28 #[.pointer (some ⟨w.heap.size, 0, none⟩), .pointer (some ⟨w.heap.size + 1 + 1, 0, none⟩), .pointer (some ⟨w.heap.size + 1, 0, none⟩)] (enters_of Try.func28 (by kernel_rfl) rfl) (fun m => m.app s bs)
    (fun W l hW hk => app_any hW w.heap.size (w.heap.size + 1 + 1) (w.heap.size + 1) A c s bs (hk.cell q0 o0) (hk.cell q1 o2) (hk.cell q2 o1) o0 o2 o1 (hA3.kp hk) hs hB hl))
  clear H1 H2 H3 hA3 q1 q2 o0 o1 o2 hA hs hB hl h
  go_enter Try.func11, Try.ntmps11
  go_wp2_with (go_at_call 27; refine HC.out.mono ?_; intro e w1 hq; have hq2 : Res d w _ e w1 := Res.later (d := d) HK.out rfl (fun i hi => .inl hi) hq; obtain ⟨rfl, hq3⟩ := hq2; have HX := Lib.hid hq3; clear hq hq3)
  go_ret
  exact ⟨rfl, HX.out⟩
end Go.Proofs.Ytkieacidpiffpaa
