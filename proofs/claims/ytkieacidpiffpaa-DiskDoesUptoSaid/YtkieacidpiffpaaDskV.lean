/- Drop: a file is taken away. -/
import Derived.Test.YtkieacidpiffpaaDskK
namespace Go.Proofs.Ytkieacidpiffpaa
open Go Go.RowKit Go.Shelf
set_option linter.unusedVariables false
set_option linter.unusedSimpArgs false

theorem step_delete_own {P : Program} {w : World} {ops : Array Oper} {o : Oper} {a : Act} {K : Act → World → Prop} {Q : Exit → Act → World → Prop} {E : Prop} (hgd : o.guard = none) (m x : Operand) (t k : TypeId)
    (ho : o.op = .call { callee := .builtin .delete, args := #[m, x], argTypes := #[t, k] })
    (e : TypeId) (KK : Maps.Keyed P k) (ht : P.underlying t = some (.map k e)) (R : Value → Option (DataW Unit × List MemPlace)) (b n : Nat) (D : DataW Unit)
    (hm : a.eval m = .map (some b)) (hown : w.ownsMap P k R b n D) (key : Value) (kl : Lit) (hx : a.eval x = key) (hkey : keyOf P k key = some kl)
    (h : ∀ w', w'.ownsMap P k R b n (D.del kl) → w.mapTurned w' b → K (a.put o.dst (.tuple #[])) w') :
    if Region.wanted o (yielded ops a.tmps) = true then Oper.wp P o a w K Q else E := by
  have hw : Region.wanted o (yielded ops a.tmps) = true := by simp [Region.wanted, hgd]
  rw [if_pos hw]
  obtain ⟨w', hrun, r1, r2⟩ := hown.drop KK ht hkey o.type
  unfold Oper.wp
  simp [execOp, ho, resolve, invoke, builtin, hm, hx, hrun, Result.andThen]
  exact h w' r1 r2
theorem vws_filter (fs : List Fl) (s : ByteArray) : vws (fs.filter fun f => decide (f.vw.name ≠ s)) = (vws fs).filter fun f => decide (f.name ≠ s) := by
  unfold vws; rw [List.filter_map]; rfl
theorem drop_is {w w' : World} {d : Dk} (h : DkAt w d) {s : ByteArray} {f : Fl} (hl : lookF d.fs s = some f) {D : DataW Unit} {n : Nat} (hr : Rd D d.fs) (ht : Maps.Tidy D)
    (hm : w'.ownsMap Try.prog 9 ptrE d.M n (D.del (keyL s))) (hk : ∀ i, i ≠ d.M → w'.heap[i]? = w.heap[i]?) (ho : w'.os = w.os) (hta : w'.tape = w.tape) (hou : w'.output = w.output) (hs : w'.heap.size = w.heap.size) :
    Res d w (d.md.drp s) (.returned (.int .u16 0)) w' := by
  have he : d.md.drp s = ({ d.md with fs := d.md.fs.filter fun f => decide (f.name ≠ s) }, 0) := by
    unfold Md.drp
    have : d.md.look s = some f.vw := by show (vws d.fs).find? _ = _; rw [look_vws, hl]; rfl
    rw [this]
  rw [he]
  refine ⟨rfl, { d with fs := d.fs.filter fun f => decide (f.vw.name ≠ s) }, h.del hl hm (hr.del ht h.names hl) hk, ?_, rfl, ⟨ho, hta, hou, by omega, fun i _ hn => hk i fun e => hn (.inr (.inl e))⟩, fun i hi => .inl ?_⟩
  · show Md.mk _ _ _ _ = Md.mk _ _ _ _
    rw [vws_filter]; rfl
  · rcases hi with hi | hi | ⟨g, hg, hi⟩
    · exact .inl hi
    · exact .inr (.inl hi)
    · exact .inr (.inr ⟨g, (List.mem_filter.1 hg).1, hi⟩)
theorem turned_parts {w w' : World} {b : Nat} (h : w.mapTurned w' b) : (∀ i, i ≠ b → w'.heap[i]? = w.heap[i]?) ∧ w'.os = w.os ∧ w'.tape = w.tape ∧ w'.output = w.output ∧ w'.heap.size = w.heap.size := by
  have hg := h.grown
  have hs : w'.heap.size = w.heap.size := by obtain ⟨es, clock, es', clock', hb, rfl⟩ := h; simp [Go.ChangeMaps.setBlock]
  refine ⟨fun i hi => ?_, hg.os, hg.tape, hg.output, hs⟩
  rcases Nat.lt_or_ge i w.heap.size with h1 | h1
  · exact hg.block i h1 fun e => hi (Option.some.inj e)
  · rw [Array.getElem?_eq_none (by omega), Array.getElem?_eq_none h1]
set_option maxHeartbeats 1000000 in
theorem dropc_any {W : World} {d : Dk} (h : DkAt W d) {s : ByteArray} {f : Fl} (hl : lookF d.fs s = some f) (hs : s.size ≤ maxLen) (p0 p1 : Nat) (q0 : W.cell? ⟨p0, 0, none⟩ = some (.pointer (some ⟨d.B, 0, none⟩))) (q1 : W.cell? ⟨p1, 0, none⟩ = some (.string s)) :
    Calls Try.prog 50 (#[.pointer (some ⟨f.blk, 0, none⟩)] ++ #[.pointer (some ⟨p0, 0, none⟩), .pointer (some ⟨p1, 0, none⟩)]) W (Res d W (d.md.drp s)) := by
  obtain ⟨c0, c1, c2, c3, cf⟩ := h.cells
  obtain ⟨D, hown, hrd⟩ := h.map
  have H := Lib.hid h
  have HL := Lib.hid (And.intro hl hs)
  have HM := Lib.hid (And.intro hown (And.intro hrd (hown.tidy lawS)))
  clear c0 c2 c3 cf h hl hs hown hrd
  show Calls Try.prog 50 #[.pointer (some ⟨f.blk, 0, none⟩), .pointer (some ⟨p0, 0, none⟩), .pointer (some ⟨p1, 0, none⟩)] W _
  go_enter Try.func50, Try.ntmps50
  go_upto_region 1 with fail
  go_region_law (refine step_delete_own rfl (.tmp 8) (.tmp 9) 53 9 rfl 63 lawS Try.underlying53 ptrE d.M d.fs.length D (by simp [Act.eval, Act.put]) (ownsMap_of_eq HM.out.1 rfl) (.string s) (keyL s) (by simp [Act.eval, Act.put]) (key_of HL.out.2) ?_; intro w1 hown1 hturn1; have HX := Lib.hid (And.intro hown1 hturn1); clear hown1 hturn1)
  all_goals go_wp2
  all_goals go_ret
  all_goals (obtain ⟨t1, t2, t3, t4, t5⟩ := turned_parts HX.out.2; exact drop_is H.out HL.out.1 HM.out.2.1 HM.out.2.2 HX.out.1 t1 t2 t3 t4 t5)
theorem drp_found (m : Md) (s : ByteArray) : m.found s (fun m => m.drp s) = m.drp s := by
  unfold Md.found Md.drp
  cases hh : m.look s with
  | none => rfl
  | some f => simp only [hh]
set_option maxHeartbeats 1000000 in
theorem drop_any {w : World} {d : Dk} (h : DkAt w d) (s : ByteArray) (hs : s.size ≤ maxLen) : Calls Try.prog 23 #[.pointer (some ⟨d.B, 0, none⟩), .string s] w (Res d w (d.md.drop s)) := by
  have hmf := mk_func
  have H1 := h.alloc (.cells #[.pointer (some ⟨d.B, 0, none⟩)] 24)
  have H2 := H1.alloc (.cells #[.string s] 9)
  have q0 := cell_alloc (.cells #[.string s] 9) (box_cell w 24 (.pointer (some ⟨d.B, 0, none⟩)))
  have q1 := box_cell (w.alloc (.cells #[.pointer (some ⟨d.B, 0, none⟩)] 24)) 9 (.string s)
  have o0 : ¬ d.own w.heap.size := h.not_own (Nat.le_refl _)
  have o1 : ¬ d.own (w.heap.size + 1) := h.not_own (by omega)
  simp only [World.size_alloc] at q0 q1
  have HK := Lib.hid ((Kp.alloc d.own w (.cells #[.pointer (some ⟨d.B, 0, none⟩)] 24)).trans (Kp.alloc d.own _ (.cells #[.string s] 9)) fun i hi => .inl hi)
  have hc0 := (change_any H2 50 #[.pointer (some ⟨w.heap.size, 0, none⟩), .pointer (some ⟨w.heap.size + 1, 0, none⟩)] (enters_of Try.func50 (by kernel_rfl) rfl) s hs (fun m => m.drp s) fun l f W hf hW hk => dropc_any hW hf hs w.heap.size (w.heap.size + 1) (hk.cell q0 o0) (hk.cell q1 o1))
  simp only [drp_found] at hc0
  have HC := Lib.hid (show Calls Try.prog 30 _ _ (Res d _ (d.md.drop s)) from hc0)
  clear h hs H1 H2 q0 q1 o0 o1 hc0
  go_enter Try.func23, Try.ntmps23
  go_wp2_with (go_at_call 30; refine HC.out.mono ?_; intro e w1 hq; have hq2 : Res d w _ e w1 := Res.later (d := d) HK.out rfl (fun i hi => .inl hi) hq; obtain ⟨rfl, hq3⟩ := hq2; have HX := Lib.hid hq3; clear hq hq3)
  go_ret
  exact ⟨rfl, HX.out⟩
end Go.Proofs.Ytkieacidpiffpaa
