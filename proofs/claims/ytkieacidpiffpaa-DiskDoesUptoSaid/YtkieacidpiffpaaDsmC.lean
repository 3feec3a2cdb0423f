/- The document's own disk: Append. -/
import Derived.Test.YtkieacidpiffpaaDsmB
import Derived.Test.YtkieacidpiffpaaDskL
namespace Go.Proofs.Ytkieacidpiffpaa
open Go Go.RowKit Go.Shelf
set_option linter.unusedVariables false
set_option linter.unusedSimpArgs false

def addV (bs : List Int) (f : Vw) : Vw := { f with has := f.has ++ bs }
def nameLt (a b : ByteArray) : Bool := Op.bytesLess a.toList b.toList
def insR : List Vw → ByteArray → Nat
  | [], _ => 0
  | f :: r, s => if nameLt f.name s = true then insR r s + 1 else 0
def Rm.append (m : Rm) (s : ByteArray) (bs : List Int) : Rm × Int :=
  if m.left = 0 ∨ m.on = true ∨ m.room < sizes m.fs + bs.length then (m.tick, 130) else
  match idxR m.fs s with
  | some k => ({ m.tick with fs := modV m.fs k (addV bs) }, 0)
  | none => if 64 ≤ m.fs.length ∨ s.size = 0 ∨ 30 < s.size then (m.tick, 130) else ({ m.tick with fs := m.fs.take (insR m.fs s) ++ ⟨s, bs, 0⟩ :: m.fs.drop (insR m.fs s) }, 0)
theorem rapp_at {W W4 : World} {r2 : Rk} (h : RkAt W r2) {k : Nat} {f : Rf} (hi : r2.fs[k]? = some f) {g cg : Nat} (hF : r2.F = .slice (some ⟨g, 0, none⟩) r2.fs.length cg) (hb : Below W.heap.size W W4) {bs : List Int} {A4 : Option Addr} {n4 c4 : Nat}
    (ho : W4.ownsRow W.heap.size 5 1 (.slice A4 n4 c4) (f.vw.has.length + bs.length) (cellsB (f.vw.has ++ bs))) (hB : Byte bs) (hu : sizes (rvs r2.fs) + bs.length ≤ r2.room) :
    ∃ r', RkAt (W4.setCell ⟨g, k * 3 + 1, none⟩ (.slice A4 n4 c4)) r' ∧ r'.rm = { r2.rm with fs := modV r2.rm.fs k (addV bs) } ∧ r'.B = r2.B ∧ Kp r2.own W (W4.setCell ⟨g, k * 3 + 1, none⟩ (.slice A4 n4 c4)) ∧ ∀ i, r'.own i → r2.own i ∨ W.heap.size ≤ i := by
  have hmem := List.mem_of_getElem? hi
  have h4 := h.below hb
  have hlen : f.vw.has.length + bs.length = (f.vw.has ++ bs).length := by rw [List.length_append]
  rw [hlen] at ho
  obtain ⟨B', d, e, hd, hnew⟩ := own_bytes ho rfl
  cases e
  have hg : g < W.heap.size := (h.row.lt g (by rw [hF]; rfl)).2
  have hrow := h4.row
  rw [hF] at hrow
  obtain ⟨h1, h2⟩ := hrow.stored (k * 3 + 1) (.slice A4 (f.vw.has ++ bs).length c4)
  rw [cellsF_set1 (f.vw.has ++ bs) A4 c4 hi] at h1
  have hsz := sizes_set (addV bs f.vw) (rvs_get hi)
  have hst : ∀ i, i ≠ g → (W4.setCell ⟨g, k * 3 + 1, none⟩ (.slice A4 (f.vw.has ++ bs).length c4)).heap[i]? = W4.heap[i]? := fun i hne => Below.heap_setCell _ _ _ _ hne
  have hat := h4.set (f' := ⟨addV bs f.vw, A4, c4⟩) hi (w' := W4.setCell ⟨g, k * 3 + 1, none⟩ (.slice A4 (f.vw.has ++ bs).length c4)) (by rw [hF]; exact h1) (fun i _ hne => hst i fun e => hne (by rw [hF, e]; rfl))
    (fun hne => by
      obtain ⟨g2, rfl, hr⟩ := hnew.resolve_left hne
      have hbase := hr.base
      have hr2 := hr.far (p := ⟨g, k * 3 + 1, none⟩) (by show g2 ≠ g; omega) (.slice (some ⟨g2, 0, none⟩) (f.vw.has ++ bs).length c4)
      obtain ⟨b, o, e, hbl, hc⟩ := hr2.bytes hne
      cases e
      refine ⟨_, _, rfl, fun hw => ?_, hr2.lt, hc⟩
      rcases hw with hw | hw
      · have := h.box.lt; omega
      · have := (h.row.lt _ hw).2; omega)
    hd (by show f.vw.lasts ≤ (f.vw.has ++ bs).length; have := h.lasts f hmem; rw [List.length_append]; omega) ((h.byte f hmem).append hB) (h.name f hmem)
    (by have e : (addV bs f.vw).has.length = f.vw.has.length + bs.length := List.length_append; show sizes ((rvs r2.fs).set k (addV bs f.vw)) ≤ _; omega)
  refine ⟨_, hat, ?_, rfl, (Kp.of_below hb).trans (Kp.setCell (own := r2.own) _ _ _ (.inl (.inr (by rw [hF]; rfl)))) fun i hi => .inl hi, set_own fun i hi2 => .inr ?_⟩
  · rw [rm_set, show modV r2.rm.fs k (addV bs) = _ from modV_at hi (addV bs)]
  · obtain ⟨hne, a, e, rfl⟩ := hi2
    obtain ⟨g2, e2, hr⟩ := hnew.resolve_left hne
    have e3 : A4 = some a := e
    rw [e2] at e3; cases e3
    exact hr.base
theorem new_from (w : World) (s : ByteArray) : ∀ ad, some (⟨w.heap.size, 0, none⟩ : Addr) = some ad → ∀ j u, (cellsF [⟨⟨s, [], 0⟩, none, 0⟩])[j]? = some u → (w.alloc (.cells #[.string s, .slice none 0 0, .int .i64 0] 87)).cell? (ad.add j) = some u := by
  intro ad e j u hj
  cases e
  have hN := (Whole.new w 87 #[.string s, .slice none 0 0, .int .i64 0]).cell j
  have e0 : (⟨w.heap.size, 0, none⟩ : Addr).add j = ⟨w.heap.size, j, none⟩ := by
    by_cases e : j = 0
    · subst e; simp [Addr.add]
    · simp [Addr.add, e]
  rw [e0, hN]
  have hlt := (List.getElem?_eq_some_iff.1 hj).1
  simp only [cellsF, List.length_cons, List.length_nil] at hlt hj
  match j, hlt with
  | 0, _ => exact hj
  | 1, _ => exact hj
  | 2, _ => exact hj
theorem new_sizes (s : ByteArray) (a : List Rf) (k : Nat) : sizes (rvs (a.take k ++ ⟨⟨s, [], 0⟩, none, 0⟩ :: a.drop k)) = sizes (rvs a) := by
  conv => rhs; rw [← List.take_append_drop k a]
  unfold rvs
  rw [List.map_append, List.map_append, sizes_append, sizes_append, List.map_cons, sizes_cons]
  simp
theorem mod_new (l r : List Vw) (x : Vw) (g : Vw → Vw) : modV (l ++ x :: r) l.length g = l ++ g x :: r := by
  have e : (l ++ x :: r)[l.length]? = some x := by rw [List.getElem?_append_right (Nat.le_refl _), Nat.sub_self]; rfl
  unfold modV; rw [e]
  show (l ++ x :: r).set l.length (g x) = _
  rw [List.set_append_right _ _ (Nat.le_refl _), Nat.sub_self]; rfl
theorem rused_b {w : World} {r : Rk} {B : Nat} (h : RkAt w r) (hB : r.B = B) {z : Int} (hz : (sizes (rvs r.fs) : Nat) = z) : Calls Try.prog 47 #[.pointer (some ⟨B, 0, none⟩)] w fun e w' => e = .returned (.int .i64 z) ∧ w' = w := by
  subst hB; subst hz; exact rused_any h
theorem insR_at : ∀ {fs : List Vw} {s : ByteArray} {k : Nat}, k ≤ fs.length → (∀ (j : Nat) (f : Vw), j < k → fs[j]? = some f → nameLt f.name s = true) → (∀ f, fs[k]? = some f → nameLt f.name s = false) → insR fs s = k
  | [], s, k, hk, _, _ => by simp at hk; subst hk; rfl
  | g :: r, s, 0, _, _, h => by
    have := h g rfl
    rw [insR, if_neg (by rw [this]; simp)]
  | g :: r, s, k + 1, hk, hl, h => by
    have h0 := hl 0 g (by omega) rfl
    rw [insR, if_pos h0, insR_at (fs := r) (k := k) (by simpa using hk) (fun j f hj hf => hl (j + 1) f (by omega) (by simpa using hf)) (fun f hf => h f (by simpa using hf))]

set_option maxHeartbeats 4000000 in
theorem rappend_any {w : World} {r : Rk} (h : RkAt w r) (A : Option Addr) (c : Nat) (s : ByteArray) (bs : List Int) (hA : Src r.own w A bs) (hBy : Byte bs) (hl : bs.length ≤ 9223372036854775807) :
    Calls Try.prog 45 #[.pointer (some ⟨r.B, 0, none⟩), .string s, .slice A bs.length c] w (RRes r w (r.rm.append s bs)) := by
  obtain ⟨r1, hB, hO, hM, hfs, hF, hon, hroom, hcall⟩ := tick_step h
  have HC := Lib.hid hcall
  have HB := Lib.hid (And.intro hB hO)
  by_cases h0 : r.left = 0
  · have hd : decide (r.left ≠ 0) = false := decide_eq_false (by simpa using h0)
    have HR := Lib.hid (show r.rm.append s bs = (r1.rm, 130) by unfold Rm.append; rw [if_pos (.inl h0), hM])
    rw [hd] at HC
    clear hcall hd h0 hB hO hM hfs hF hon hroom h hA hBy hl
    go_enter Try.func45, Try.ntmps45
    go_wp2_with (go_at_call 56; refine HC.out.mono ?_; rintro e w1 ⟨rfl, h1, k1⟩; have H1 := Lib.hid (And.intro h1 k1); obtain ⟨A1, cA, hF1, c0, c1, c2, c3, c4, cf⟩ := h1.shape; have HF1 := Lib.hid hF1; rw [HB.out.1] at c0 c1 c2; clear h1 k1 hF1 c3 c4 cf)
    go_quiet (fail)
    go_wp2
    go_ret
    exact RRes.later H1.out.2 HB.out.1 (fun i hi => .inl (HB.out.2 ▸ hi)) (RRes.same H1.out.1 (below_drewN (Below.refl _ _) _) HR.out)
  have hd : decide (r.left ≠ 0) = true := decide_eq_true (by simpa using h0)
  rw [hd] at HC
  cases hon2 : r.on with
  | true =>
    have HR := Lib.hid (show r.rm.append s bs = (r1.rm, 130) by unfold Rm.append; rw [if_pos (.inr (.inl hon2)), hM])
    rw [hon2] at hon
    clear hcall hd h0 hB hO hM hfs hF hroom h hA hBy hl hon2
    go_enter Try.func45, Try.ntmps45
    go_wp2_with (go_at_call 56; refine HC.out.mono ?_; rintro e w1 ⟨rfl, h1, k1⟩; have H1 := Lib.hid (And.intro h1 k1); obtain ⟨A1, cA, hF1, c0, c1, c2, c3, c4, cf⟩ := h1.shape; have HF1 := Lib.hid hF1; rw [HB.out.1] at c0 c1 c2; clear h1 k1 hF1 c3 c4 cf)
    rw [hon] at c2
    go_quiet (fail)
    go_wp2
    go_ret
    exact RRes.later H1.out.2 HB.out.1 (fun i hi => .inl (HB.out.2 ▸ hi)) (RRes.same H1.out.1 (below_drewN (Below.refl _ _) _) HR.out)
  | false =>
    have hu := h.used
    have hrm := h.room
    obtain ⟨z, hz⟩ : ∃ z, z = sizes (rvs r.fs) := ⟨_, rfl⟩
    have HUS := Lib.hid (fun W (hW : RkAt W r1) => rused_b hW hB (z := (z : Int)) (by rw [hfs, hz]))
    rw [hon2] at hon
    have HBY := Lib.hid (And.intro hBy hl)
    have HAA := Lib.hid hA
    have hb1 : ((r1.room : Nat) : Int) - (z : Nat) ≤ 9223372036854775807 ∧ -9223372036854775808 ≤ ((r1.room : Nat) : Int) - (z : Nat) := by rw [hroom]; omega
    have hwr : IntKind.i64.wrap ((r1.room : Int) - (z : Nat)) = (r1.room : Int) - (z : Nat) := by rw [IntKind.wrap_i64]; omega
    by_cases hlong : r.room < z + bs.length
    · have HR := Lib.hid (show r.rm.append s bs = (r1.rm, 130) by unfold Rm.append; rw [if_pos (.inr (.inr (by show r.room < sizes (rvs r.fs) + _; rw [← hz]; exact hlong))), hM])
      have dl : decide ((r1.room : Int) - (z : Nat) < (bs.length : Int)) = true := decide_eq_true (by rw [hroom]; omega)
      clear hcall hd h0 hB hO hM hfs hF hroom h hA hBy hl hon2 hlong hu hrm hz
      go_enter Try.func45, Try.ntmps45
      go_wp2_with (go_at_call 56; refine HC.out.mono ?_; rintro e w1 ⟨rfl, h1, k1⟩; have H1 := Lib.hid (And.intro h1 k1); obtain ⟨A1, cA, hF1, c0, c1, c2, c3, c4, cf⟩ := h1.shape; have HF1 := Lib.hid hF1; rw [HB.out.1] at c0 c1 c2; clear h1 k1 hF1 c3 c4 cf)
      rw [hon] at c2
      go_quiet ((go_at_call 47; exact Calls.quiet_of_same (HUS.out _ (H1.out.1.drewN _))))
      go_wp2
      go_ret
      exact RRes.later H1.out.2 HB.out.1 (fun i hi => .inl (HB.out.2 ▸ hi)) (RRes.same H1.out.1 (below_drewN (Below.refl _ _) _) HR.out)
    · have dl : decide ((r1.room : Int) - (z : Nat) < (bs.length : Int)) = false := decide_eq_false (by rw [hroom]; omega)
      have HBS := Lib.hid (show sizes (rvs r1.fs) + bs.length ≤ r1.room ∧ bs.length ≤ 1048576 by rw [hfs, hroom, ← hz]; omega)
      have hX : r.rm.append s bs = (match idxR r1.rm.fs s with
          | some k => ({ r1.rm with fs := modV r1.rm.fs k (addV bs) }, 0)
          | none => if 64 ≤ r1.rm.fs.length ∨ s.size = 0 ∨ 30 < s.size then (r1.rm, 130) else ({ r1.rm with fs := r1.rm.fs.take (insR r1.rm.fs s) ++ ⟨s, bs, 0⟩ :: r1.rm.fs.drop (insR r1.rm.fs s) }, 0)) := by
        have e : r1.rm.fs = r.rm.fs := by show rvs r1.fs = rvs r.fs; rw [hfs]
        unfold Rm.append
        rw [if_neg (by show ¬ (r.left = 0 ∨ r.on = true ∨ r.room < sizes (rvs r.fs) + bs.length); rw [hon2, ← hz]; simp [h0]; omega), e, hM]
      obtain ⟨i0, hi, hz0, hz1, hz2⟩ := info_parts infoByte
      have HI := Lib.hid (And.intro hi (And.intro hz0 (And.intro hz1 hz2)))
      have h64 : r1.fs.length ≤ 64 := by rw [hfs]; exact h.many
      cases hix : idxR (rvs r1.fs) s with
      | some k =>
        have HR := Lib.hid (show r.rm.append s bs = ({ r1.rm with fs := modV r1.rm.fs k (addV bs) }, 0) by rw [hX, show r1.rm.fs = rvs r1.fs from rfl, hix])
        have HF := Lib.hid (fun W (hW : RkAt W r1) => rfind_b hW hB s (z := k) (by rw [hix]; rfl))
        obtain ⟨v, hv, _⟩ := idxR_some hix
        obtain ⟨f, hf, rfl⟩ := rvs_got hv
        have HGG := Lib.hid hf
        have HB2 := Lib.hid hB
        clear hcall hd h0 hB hO hM hfs hF hroom h hA hBy hl hon2 hlong hu hrm hz hi hz0 hz1 hz2 hix hX hv hf
        go_enter Try.func45, Try.ntmps45
        go_wp2_with (go_at_call 56; refine HC.out.mono ?_; rintro e w1 ⟨rfl, h1, k1⟩; have H1 := Lib.hid (And.intro h1 k1); obtain ⟨A1, cA, hF1, c0, c1, c2, c3, c4, cf⟩ := h1.shape; have HF1 := Lib.hid hF1; rw [HB.out.1] at c0 c1 c2; clear h1 k1 hF1 c3 c4 cf)
        rw [hon] at c2
        go_quiet ((go_at_call 47; exact Calls.quiet_of_same (HUS.out _ (H1.out.1.drewN _))))
        have HW := Lib.hid (show RkAt (w1.drewN nq) r1 ∧ Kp r.own w (w1.drewN nq) from ⟨H1.out.1.drewN _, H1.out.2.trans (Kp.drewN r.own w1 nq) fun i hi => .inl hi⟩)
        generalize w1.drewN nq = W2 at HW ⊢
        have HKK := Lib.hid (And.intro HW.out.2 (fun i (hi : r1.own i) => (show r.own i ∨ w.heap.size ≤ i from .inl (HB.out.2 ▸ hi))))
        have HBT := Lib.hid (fun X (hb : Below W2.heap.size W2 X) => Src.bytes (Src.below (HAA.out.kp HW.out.2) hb))
        clear c0 c1 c2
        go_upto_region 16 with (go_at_call 57; refine (HF.out _ HW.out.1).mono ?_; rintro e w2 ⟨rfl, rfl⟩)
        obtain ⟨g, cg, hFg, d1, _, f1, _, ff, _⟩ := HW.out.1.file HGG.out
        have HFG := Lib.hid hFg
        rw [HB2.out] at d1
        have e1 := ff (k * 3 + 1)
        have hmemT := List.mem_of_getElem? HGG.out
        have HSR := Lib.hid (And.intro (HW.out.1.src hmemT) (HW.out.1.len hmemT))
        have HKC := Lib.hid (fun X (hb : Below w2.heap.size w2 X) => (show X.cell? ⟨r.B, 1, none⟩ = some (.slice (some ⟨g, 0, none⟩) r1.fs.length cg) ∧ X.cell? ⟨g, k * 3 + 1, none⟩ = some (.slice f.A f.vw.has.length f.c) ∧ X.frozen? ⟨g, k * 3 + 1, none⟩ = false from
          ⟨(hb.cell (p := ⟨r.B, 1, none⟩) (World.block_lt_of_cell? w2 _ d1)).trans d1, (hb.cell (p := ⟨g, k * 3 + 1, none⟩) (World.block_lt_of_cell? w2 _ f1)).trans f1, (World.frozen?_of_block (hb.block g (World.block_lt_of_cell? w2 _ f1))).trans e1⟩))
        have HLT := Lib.hid (List.getElem?_eq_some_iff.1 HGG.out).1
        have hltT : k < r1.fs.length := HLT.out
        have h64T : r1.fs.length ≤ 64 := HW.out.1.many
        clear hFg e1 ff hmemT
        go_wp2_with (first
          | (at_builtin; refine wpList_append_from _ rfl (.tmp 99) (.tmp 107) 22 rfl w2.heap.size 5 i0 _ 1 1 Try.underlying22 HI.out.1 HI.out.2.1 HI.out.2.2.1 HI.out.2.2.2 rfl (by decide) (.slice none 0 0) 0 [] rfl (World.ownsRow_nil _ _ _ _) f.A f.vw.has.length f.c (cellsB f.vw.has) rfl HSR.out.1.none (by simp [cellsB]) (cellsB_from HSR.out.1) (cellsB_one _) (by have := HSR.out.2; unfold maxLen; omega) (by have := HSR.out.2; omega) (Nat.le_refl _) ?_; intro v6 w6 hown hgrow hat; rw [Nat.zero_add, List.nil_append] at hown; have hb6 := Below.grown (Below.refl w2.heap.size w2) hgrow (Nat.le_refl _) (fun k hk => by cases hk); obtain ⟨x6, y6, z6⟩ := HKC.out _ hb6; have HA6 := Lib.hid (HBT.out _ hb6); have H6 := Lib.hid (And.intro hown hb6); clear hown hgrow hat hb6 d1 f1)
          | (at_builtin; refine wpList_append_from _ rfl (.tmp 109) (.tmp 110) 22 rfl w2.heap.size 5 i0 _ 1 1 Try.underlying22 HI.out.1 HI.out.2.1 HI.out.2.2.1 HI.out.2.2.2 rfl (by decide) v6 f.vw.has.length (cellsB f.vw.has) rfl H6.out.1 A bs.length c (cellsB bs) rfl HA6.out.none (by simp [cellsB]) (cellsB_from HA6.out) (cellsB_one _) (by have := HSR.out.2; have := HBS.out.2; unfold maxLen; omega) (by have := HSR.out.2; have := HBS.out.2; omega) H6.out.2.size ?_; intro v7 w7 hown hgrow hat; rw [← cellsB_app] at hown; obtain ⟨A7, c7, rfl⟩ := own_shape hown; have hb7 := Below.grown H6.out.2 hgrow H6.out.2.size (fun k hk => (H6.out.1.lt k hk).1); obtain ⟨x7, y7, z7⟩ := HKC.out _ hb7; have H7 := Lib.hid (And.intro hown hb7); clear hown hgrow hat hb7 x6 y6 z6))
        go_ret
        rw [HR.out]
        refine RRes.later (r1 := r1) HKK.out.1 HB2.out HKK.out.2 ?_
        obtain ⟨r', q1, q2, q3, q4, q5⟩ := rapp_at HW.out.1 HGG.out HFG.out H7.out.2 H7.out.1 HBY.out.1 HBS.out.1
        exact ⟨rfl, r', q1, q2, q3, q4, q5⟩
      | none =>
        have HF := Lib.hid (fun W (hW : RkAt W r1) => rfind_b hW hB s (z := -1) (by rw [hix]; rfl))
        have hR : r.rm.append s bs = (if 64 ≤ r1.fs.length ∨ s.size = 0 ∨ 30 < s.size then (r1.rm, 130) else ({ r1.rm with fs := (rvs r1.fs).take (insR (rvs r1.fs) s) ++ ⟨s, bs, 0⟩ :: (rvs r1.fs).drop (insR (rvs r1.fs) s) }, 0)) := by
          rw [hX, show r1.rm.fs = rvs r1.fs from rfl, hix, show (rvs r1.fs).length = r1.fs.length from List.length_map ..]
        have HB2 := Lib.hid hB
        by_cases hno : 64 ≤ r1.fs.length ∨ s.size = 0 ∨ 30 < s.size
        · have HR := Lib.hid (show r.rm.append s bs = (r1.rm, 130) by rw [hR, if_pos hno])
          have HNO := Lib.hid hno
          clear hcall hd h0 hB hO hM hfs hF hroom h hA hBy hl hon2 hlong hu hrm hz hi hz0 hz1 hz2 hix hX hR hno
          go_enter Try.func45, Try.ntmps45
          go_wp2_with (go_at_call 56; refine HC.out.mono ?_; rintro e w1 ⟨rfl, h1, k1⟩; have H1 := Lib.hid (And.intro h1 k1); obtain ⟨A1, cA, hF1, c0, c1, c2, c3, c4, cf⟩ := h1.shape; have HF1 := Lib.hid hF1; rw [HB.out.1] at c0 c1 c2; clear h1 k1 hF1 c3 c4 cf)
          rw [hon] at c2
          go_quiet ((go_at_call 47; exact Calls.quiet_of_same (HUS.out _ (H1.out.1.drewN _))))
          have HW := Lib.hid (show RkAt (w1.drewN nq) r1 ∧ Kp r.own w (w1.drewN nq) ∧ (w1.drewN nq).cell? ⟨r.B, 1, none⟩ = some (.slice A1 r1.fs.length cA) from ⟨H1.out.1.drewN _, H1.out.2.trans (Kp.drewN r.own w1 nq) fun i hi => .inl hi, c1⟩)
          generalize w1.drewN nq = W2 at HW ⊢
          clear c0 c1 c2
          have q1 := HW.out.2.2
          by_cases g64 : 64 ≤ r1.fs.length
          · have d1 : decide ((64 : Int) ≤ (r1.fs.length : Int)) = true := decide_eq_true (by omega)
            clear g64
            go_wp2_with (go_at_call 57; refine (HF.out _ HW.out.1).mono ?_; rintro e w2 ⟨rfl, rfl⟩)
            go_ret
            exact RRes.later HW.out.2.1 HB.out.1 (fun i hi => .inl (HB.out.2 ▸ hi)) (RRes.same HW.out.1 (Below.refl _ _) HR.out)
          · have d1 : decide ((64 : Int) ≤ (r1.fs.length : Int)) = false := decide_eq_false (by omega)
            by_cases hs0 : s.size = 0
            · have d2 : s.toList.isEmpty = true := by rw [no_letters]; exact decide_eq_true hs0
              clear g64 hs0
              go_wp2_with (go_at_call 57; refine (HF.out _ HW.out.1).mono ?_; rintro e w2 ⟨rfl, rfl⟩)
              go_ret
              exact RRes.later HW.out.2.1 HB.out.1 (fun i hi => .inl (HB.out.2 ▸ hi)) (RRes.same HW.out.1 (Below.refl _ _) HR.out)
            · have d2 : s.toList.isEmpty = false := by rw [no_letters]; exact decide_eq_false hs0
              have d3 : decide ((30 : Int) < (s.size : Int)) = true := decide_eq_true (by have := HNO.out; omega)
              clear g64 hs0
              go_wp2_with (go_at_call 57; refine (HF.out _ HW.out.1).mono ?_; rintro e w2 ⟨rfl, rfl⟩)
              go_ret
              exact RRes.later HW.out.2.1 HB.out.1 (fun i hi => .inl (HB.out.2 ▸ hi)) (RRes.same HW.out.1 (Below.refl _ _) HR.out)
        · have HX0 := Lib.hid (hR.trans (if_neg hno))
          have HNO := Lib.hid (show r1.fs.length < 64 ∧ s.size ≠ 0 ∧ s.size ≤ 30 by omega)
          have d1 : decide ((64 : Int) ≤ (r1.fs.length : Int)) = false := decide_eq_false (by omega)
          have d2 : s.toList.isEmpty = false := by rw [no_letters]; exact decide_eq_false (by omega)
          have d3 : decide ((30 : Int) < (s.size : Int)) = false := decide_eq_false (by omega)
          obtain ⟨n, hn⟩ : ∃ n, n = r1.fs.length := ⟨_, rfl⟩
          rw [← hn] at d1 h64
          have HNN := Lib.hid hn
          clear hcall hd h0 hB hO hM hfs hF hroom h hA hBy hl hon2 hlong hu hrm hz hi hz0 hz1 hz2 hix hX hR hno
          go_enter Try.func45, Try.ntmps45
          go_wp2_with (go_at_call 56; refine HC.out.mono ?_; rintro e w1 ⟨rfl, h1, k1⟩; have H1 := Lib.hid (And.intro h1 k1); obtain ⟨A1, cA, hF1, c0, c1, c2, c3, c4, cf⟩ := h1.shape; have HF1 := Lib.hid hF1; rw [HB.out.1] at c0 c1 c2; clear h1 k1 hF1 c3 c4 cf)
          rw [hon] at c2
          rw [← hn] at c1
          go_quiet ((go_at_call 47; exact Calls.quiet_of_same (HUS.out _ (H1.out.1.drewN _))))
          have HW := Lib.hid (show RkAt (w1.drewN nq) r1 ∧ Kp r.own w (w1.drewN nq) ∧ (w1.drewN nq).cell? ⟨r.B, 1, none⟩ = some (.slice A1 n cA) from ⟨H1.out.1.drewN _, H1.out.2.trans (Kp.drewN r.own w1 nq) fun i hi => .inl hi, c1⟩)
          generalize w1.drewN nq = W2 at HW ⊢
          clear c0 c1 c2 hn
          have q1 := HW.out.2.2
          go_wp2_with (go_at_call 57; refine (HF.out _ HW.out.1).mono ?_; rintro e w2 ⟨rfl, rfl⟩)
          go_loopw [8] (fun v W => ∃ j : Nat, j ≤ n ∧ v = .int .i64 j ∧ W = w2 ∧ ∀ (i : Nat) (f : Vw), i < j → (rvs r1.fs)[i]? = some f → nameLt f.name s = true) (fun v _ => n - (intOf v).toNat)
          case atStart => exact ⟨0, Nat.zero_le _, rfl, rfl, fun i f hi => by omega⟩
          case round =>
            obtain ⟨j, hj, rfl, rfl, hall⟩ := hrel
            have HALL := Lib.hid hall
            clear hall
            by_cases hlt : j < n
            · have hks : j < r1.fs.length := by have := HNN.out; omega
              obtain ⟨f, hf⟩ : ∃ f, r1.fs[j]? = some f := ⟨_, List.getElem?_eq_getElem hks⟩
              obtain ⟨g, c', hF, t1, f0, f1, f2, ff, hg⟩ := HW.out.1.file hf
              rw [← HNN.out, HB2.out, q1] at t1
              simp only [Option.some.injEq, Value.slice.injEq] at t1
              obtain ⟨rfl, _, rfl⟩ := t1
              clear hF f1 f2 ff hg hks
              have HFJ := Lib.hid hf
              clear hf
              by_cases hb : Op.bytesLess f.vw.name.toList s.toList = true
              · have HBL := Lib.hid hb
                go_wp2
                go_roundw
                case rel =>
                  refine ⟨j + 1, by omega, by go_num, by first | rfl | trivial, fun i f2 hi hf2 => ?_⟩
                  by_cases e : i = j
                  · subst e
                    rw [rvs_get HFJ.out] at hf2; cases hf2
                    exact HBL.out
                  · exact HALL.out i f2 (by omega) hf2
                case measure => simp [intOf]; omega
              · replace hb : Op.bytesLess f.vw.name.toList s.toList = false := by simpa using hb
                have HINS := Lib.hid (insR_at (fs := rvs r1.fs) (s := s) (k := j) (by unfold rvs; rw [List.length_map]; have := HNN.out; omega) HALL.out (fun f2 hf2 => by rw [rvs_get HFJ.out] at hf2; cases hf2; exact hb))
                have hrow := HW.out.1.row
                rw [HF1.out] at hrow
                have hnc : r1.fs.length ≤ cA := by
                  rcases hrow.2 with ⟨e, h0⟩ | ⟨_, _, _, e, _, _, h5, _⟩
                  · omega
                  · cases e; exact h5
                have hAn : ((some ⟨g, 0, none⟩) : Option Addr) = none → n = 0 := fun e => by
                  rcases hrow.2 with ⟨_, h0⟩ | ⟨_, _, _, e2, _⟩
                  · have := HNN.out; omega
                  · rw [e] at e2; cases e2
                rw [← HNN.out] at hnc
                have hsl1 := fun W => runF_h (some ⟨g, 0, none⟩) n cA j (by omega) W j rfl
                have hsl2 := fun W => runF_l (some ⟨g, 0, none⟩) n cA j (by omega) W j rfl
                have fr1 := cutF_from hrow rfl (l := 0) (h := j) (Nat.zero_le _) (by have := HNN.out; omega)
                have fr2 := cutF_from hrow rfl (l := j) (h := r1.fs.length) (by have := HNN.out; omega) (Nat.le_refl _)
                rw [List.drop_zero] at fr1
                rw [List.take_length] at fr2
                have l1 : (cellsF (r1.fs.take j)).length = j * 3 := by rw [cellsF_length, List.length_take]; have := HNN.out; omega
                have l2 : (cellsF (r1.fs.drop j)).length = (n - j) * 3 := by rw [cellsF_length, List.length_drop, ← HNN.out]
                obtain ⟨fs', hfs'⟩ : ∃ fs', fs' = r1.fs.take j ++ ⟨⟨s, [], 0⟩, none, 0⟩ :: r1.fs.drop j := ⟨_, rfl⟩
                have l3 : j + 1 + (n - j) = fs'.length := by rw [hfs', List.length_append, List.length_take, List.length_cons, List.length_drop]; have := HNN.out; omega
                have HE := Lib.hid (And.intro hfs' (show cellsF (r1.fs.take j) ++ cellsF [⟨⟨s, [], 0⟩, none, 0⟩] ++ cellsF (r1.fs.drop j) = cellsF fs' by rw [hfs', cellsF_append]; simp [cellsF]))
                have HFR := Lib.hid (And.intro fr1 (And.intro l1 (And.intro l2 (And.intro l3 (show j ≤ n ∧ n < 64 by have := HNN.out; have := HNO.out.1; omega)))))
                have HF2 := Lib.hid (fun X (hb : Below wr.heap.size wr X) ad he i u hi => (World.cell?_of_block (w := wr) (w' := X) (a := ad.add i) (hb.block _ (World.block_lt_of_cell? wr _ (fr2 ad he i u hi)))).trans (fr2 ad he i u hi))
                have HCB := Lib.hid (fun X (hb : Below wr.heap.size wr X) => (hb.cell (p := ⟨r.B, 1, none⟩) (World.block_lt_of_cell? wr _ q1)).trans q1)
                obtain ⟨iF, hi, hz0, hz1, hz2⟩ := info_parts infoFile
                have HIF := Lib.hid (And.intro hi (And.intro hz0 (And.intro hz1 hz2)))
                have fz : wr.frozen? ⟨r.B, 1, none⟩ = false := HB2.out ▸ HW.out.1.box.frozen 1
                have HAN := Lib.hid hAn
                clear fr1 fr2 l1 l2 l3 hi hz0 hz1 hz2 hrow hnc hfs' hAn
                go_upto_region 16 with (first
                  | (at_builtin; refine wpList_append_from _ rfl (.tmp 74) (.tmp 80) 72 rfl wr.heap.size 87 iF _ 3 48 Try.underlying72 HIF.out.1 HIF.out.2.1 HIF.out.2.2.1 HIF.out.2.2.2 rfl (by decide) (.slice none 0 0) 0 [] rfl (World.ownsRow_nil _ _ _ _) (cutAtF (some ⟨g, 0, none⟩) 0 cA) j cA (cellsF (r1.fs.take j)) rfl (fun h => cutF_none (n := j) (fun e => by have := HAN.out e; have := HFR.out.2.2.2.2; omega) h) HFR.out.2.1 HFR.out.1 (cellsF_one _) (by have := HFR.out.2.2.2.2; unfold maxLen; omega) (by have := HFR.out.2.2.2.2; omega) (Nat.le_refl _) ?_; intro v3 w3 hown hgrow hat; rw [Nat.zero_add, List.nil_append] at hown; have hb3 := Below.grown (Below.refl wr.heap.size wr) hgrow (Nat.le_refl _) (fun k hk => by cases hk); have H3 := Lib.hid (And.intro hown hb3); have N3 := Lib.hid (Whole.new w3 87 #[.string s, .slice none 0 0, .int .i64 0]); clear hown hgrow hat hb3)
                  | (at_builtin; refine wpList_append_from _ rfl (.tmp 82) (.tmp 85) 72 rfl wr.heap.size 87 iF _ 3 48 Try.underlying72 HIF.out.1 HIF.out.2.1 HIF.out.2.2.1 HIF.out.2.2.2 rfl (by decide) v3 j (cellsF (r1.fs.take j)) rfl (H3.out.1.alloc _) (some ⟨w3.heap.size, 0, none⟩) 1 1 (cellsF [⟨⟨s, [], 0⟩, none, 0⟩]) rfl (fun h => by cases h) rfl (new_from w3 s) (cellsF_one _) (by have := HFR.out.2.2.2.2; unfold maxLen; omega) (by have := HFR.out.2.2.2.2; omega) (by have := H3.out.2.size; simp; omega) ?_; intro v4 w4 hown hgrow hat; have hb4 := Below.grown (H3.out.2.alloc H3.out.2.size _) hgrow (by have := H3.out.2.size; simp; omega) (fun k hk => (H3.out.1.lt k hk).1); have e4 := HCB.out _ hb4; have H4 := Lib.hid (And.intro hown hb4); clear hown hgrow hat hb4)
                  | (at_builtin; refine wpList_append_from _ rfl (.tmp 87) (.tmp 93) 72 rfl wr.heap.size 87 iF _ 3 48 Try.underlying72 HIF.out.1 HIF.out.2.1 HIF.out.2.2.1 HIF.out.2.2.2 rfl (by decide) v4 (j + 1) (cellsF (r1.fs.take j) ++ cellsF [⟨⟨s, [], 0⟩, none, 0⟩]) rfl H4.out.1 (cutAtF (some ⟨g, 0, none⟩) j cA) (n - j) (cA - j) (cellsF (r1.fs.drop j)) rfl (fun h => cutF_none (n := n - j) (fun e => by have := HAN.out e; omega) h) HFR.out.2.2.1 (HF2.out _ H4.out.2) (cellsF_one _) (by have := HFR.out.2.2.2.2; unfold maxLen; omega) (by have := HFR.out.2.2.2.2; omega) H4.out.2.size ?_; intro v5 w5 hown hgrow hat; rw [HE.out.2, HFR.out.2.2.2.1] at hown; obtain ⟨A5, c5, rfl⟩ := own_shape hown; have hb5 := Below.grown H4.out.2 hgrow H4.out.2.size (fun k hk => (H4.out.1.lt k hk).1); have e5 := HCB.out _ hb5; have z5 : w5.frozen? ⟨r.B, 1, none⟩ = false := (World.frozen?_of_block (hb5.block _ (World.block_lt_of_cell? wr _ q1))).trans fz; have H5 := Lib.hid (And.intro hown hb5); clear hown hgrow hat hb5))
                have hat := HW.out.1.relist H5.out.1 H5.out.2 (fun f hf => by
                    rw [HE.out.1] at hf
                    rcases List.mem_append.1 hf with hf | hf
                    · exact .inl (List.mem_of_mem_take hf)
                    · rcases List.mem_cons.1 hf with rfl | hf
                      · exact .inr ⟨rfl, rfl, HNO.out.2.2⟩
                      · exact .inl (List.mem_of_mem_drop hf)) (by rw [HE.out.1, new_sizes]; exact HW.out.1.used) (by rw [← HFR.out.2.2.2.1]; have := HFR.out.2.2.2.2; omega)
                rw [HB2.out] at hat
                obtain ⟨r2, hr2⟩ : ∃ r2 : Rk, r2 = { r1 with B := r.B, F := .slice A5 fs'.length c5, fs := fs' } := ⟨_, rfl⟩
                have hat2 : RkAt (w5.setCell ⟨r.B, 1, none⟩ (.slice A5 fs'.length c5)) r2 := by rw [hr2, ← HB2.out]; exact HB2.out ▸ hat.1
                have HAT := Lib.hid hat2
                obtain ⟨f0, hf0⟩ : ∃ f0 : Rf, f0 = ⟨⟨s, [], 0⟩, none, 0⟩ := ⟨_, rfl⟩
                have hjl : (r1.fs.take j).length = j := by rw [List.length_take]; have := HNN.out; have := HFR.out.2.2.2.2; omega
                have HGG := Lib.hid (show r2.fs[j]? = some f0 by rw [hr2, hf0]; show fs'[j]? = _; rw [HE.out.1, List.getElem?_append_right (by omega), hjl, Nat.sub_self]; rfl)
                have HRM := Lib.hid (show ({ r2.rm with fs := modV r2.rm.fs j (addV bs) } : Rm) = { r1.rm with fs := (rvs r1.fs).take (insR (rvs r1.fs) s) ++ ⟨s, bs, 0⟩ :: (rvs r1.fs).drop (insR (rvs r1.fs) s) } by
                  rw [HINS.out, hr2]
                  have e1 : rvs fs' = (rvs r1.fs).take j ++ ⟨s, [], 0⟩ :: (rvs r1.fs).drop j := by rw [HE.out.1]; unfold rvs; simp only [List.map_append, List.map_cons, List.map_take, List.map_drop]
                  have e2 := mod_new ((rvs r1.fs).take j) ((rvs r1.fs).drop j) ⟨s, [], 0⟩ (addV bs)
                  rw [show ((rvs r1.fs).take j).length = j by unfold rvs; rw [← List.map_take, List.length_map]; exact hjl, ← e1] at e2
                  show Rm.mk _ (modV (rvs fs') j (addV bs)) _ _ _ = Rm.mk _ _ _ _ _
                  rw [e2]; rfl)
                have HBS2 := Lib.hid (show sizes (rvs r2.fs) + bs.length ≤ r2.room by rw [hr2]; show sizes (rvs fs') + bs.length ≤ r1.room; rw [HE.out.1, new_sizes]; exact HBS.out.1)
                have HKK := Lib.hid (show Kp r.own w (w5.setCell ⟨r.B, 1, none⟩ (.slice A5 fs'.length c5)) ∧ ∀ i, r2.own i → r.own i ∨ w.heap.size ≤ i from by
                  subst hr2
                  refine ⟨HW.out.2.1.trans hat.2.1 (fun i hi => .inl (HB.out.2 ▸ hi)), fun i hi => ?_⟩
                  rcases hat.2.2 i hi with h | h
                  · exact .inl (HB.out.2 ▸ h)
                  · exact .inr (Nat.le_trans HW.out.2.1.size h))
                have HB2 := Lib.hid (show r2.B = r.B by rw [hr2])
                have HR := HX0
                generalize w5.setCell ⟨r.B, 1, none⟩ (.slice A5 fs'.length c5) = wX at HAT HKK ⊢
                have HBT := Lib.hid (fun X (hb : Below wX.heap.size wX X) => Src.bytes (Src.below (HAA.out.kp HKK.out.1) hb))
                clear hat hat2 hr2 hf0 hjl e4 e5 z5 q1 fz hsl1 hsl2 HFR HF2 HCB H3 H4 H5 N3 HE
                obtain ⟨g, cg, hFg, d1, _, f1, _, ff, _⟩ := HAT.out.file HGG.out
                have HFG := Lib.hid hFg
                rw [HB2.out] at d1
                have e1 := ff (j * 3 + 1)
                have hmemT := List.mem_of_getElem? HGG.out
                have HSR := Lib.hid (And.intro (HAT.out.src hmemT) (HAT.out.len hmemT))
                have HKC := Lib.hid (fun X (hb : Below wX.heap.size wX X) => (show X.cell? ⟨r.B, 1, none⟩ = some (.slice (some ⟨g, 0, none⟩) r2.fs.length cg) ∧ X.cell? ⟨g, j * 3 + 1, none⟩ = some (.slice f0.A f0.vw.has.length f0.c) ∧ X.frozen? ⟨g, j * 3 + 1, none⟩ = false from
                  ⟨(hb.cell (p := ⟨r.B, 1, none⟩) (World.block_lt_of_cell? wX _ d1)).trans d1, (hb.cell (p := ⟨g, j * 3 + 1, none⟩) (World.block_lt_of_cell? wX _ f1)).trans f1, (World.frozen?_of_block (hb.block g (World.block_lt_of_cell? wX _ f1))).trans e1⟩))
                have HLT := Lib.hid (List.getElem?_eq_some_iff.1 HGG.out).1
                have hltT : j < r2.fs.length := HLT.out
                have h64T : r2.fs.length ≤ 64 := HAT.out.many
                clear hFg e1 ff hmemT
                go_wp2_with (first
                  | (at_builtin; refine wpList_append_from _ rfl (.tmp 99) (.tmp 107) 22 rfl wX.heap.size 5 i0 _ 1 1 Try.underlying22 HI.out.1 HI.out.2.1 HI.out.2.2.1 HI.out.2.2.2 rfl (by decide) (.slice none 0 0) 0 [] rfl (World.ownsRow_nil _ _ _ _) f0.A f0.vw.has.length f0.c (cellsB f0.vw.has) rfl HSR.out.1.none (by simp [cellsB]) (cellsB_from HSR.out.1) (cellsB_one _) (by have := HSR.out.2; unfold maxLen; omega) (by have := HSR.out.2; omega) (Nat.le_refl _) ?_; intro v6 w6 hown hgrow hat; rw [Nat.zero_add, List.nil_append] at hown; have hb6 := Below.grown (Below.refl wX.heap.size wX) hgrow (Nat.le_refl _) (fun k hk => by cases hk); obtain ⟨x6, y6, z6⟩ := HKC.out _ hb6; have HA6 := Lib.hid (HBT.out _ hb6); have H6 := Lib.hid (And.intro hown hb6); clear hown hgrow hat hb6 d1 f1)
                  | (at_builtin; refine wpList_append_from _ rfl (.tmp 109) (.tmp 110) 22 rfl wX.heap.size 5 i0 _ 1 1 Try.underlying22 HI.out.1 HI.out.2.1 HI.out.2.2.1 HI.out.2.2.2 rfl (by decide) v6 f0.vw.has.length (cellsB f0.vw.has) rfl H6.out.1 A bs.length c (cellsB bs) rfl HA6.out.none (by simp [cellsB]) (cellsB_from HA6.out) (cellsB_one _) (by have := HSR.out.2; have := HBS.out.2; unfold maxLen; omega) (by have := HSR.out.2; have := HBS.out.2; omega) H6.out.2.size ?_; intro v7 w7 hown hgrow hat; rw [← cellsB_app] at hown; obtain ⟨A7, c7, rfl⟩ := own_shape hown; have hb7 := Below.grown H6.out.2 hgrow H6.out.2.size (fun k hk => (H6.out.1.lt k hk).1); obtain ⟨x7, y7, z7⟩ := HKC.out _ hb7; have H7 := Lib.hid (And.intro hown hb7); clear hown hgrow hat hb7 x6 y6 z6))
                go_ret
                rw [HR.out]
                refine RRes.later (r1 := r2) HKK.out.1 HB2.out HKK.out.2 ?_
                obtain ⟨r', q1, q2, q3, q4, q5⟩ := rapp_at HAT.out HGG.out HFG.out H7.out.2 H7.out.1 HBY.out.1 HBS2.out
                exact ⟨rfl, r', q1, q2.trans HRM.out, q3, q4, q5⟩
            · have dj : decide ((j : Int) < (n : Int)) = false := decide_eq_false (by omega)
              have dj2 : decide (j < n) = false := decide_eq_false hlt
              have HINS := Lib.hid (insR_at (fs := rvs r1.fs) (s := s) (k := j) (by unfold rvs; rw [List.length_map]; have := HNN.out; omega) HALL.out (fun f2 hf2 => by have h1 := (List.getElem?_eq_some_iff.1 hf2).1; unfold rvs at h1; rw [List.length_map] at h1; have := HNN.out; omega))
              have hrow := HW.out.1.row
              rw [HF1.out] at hrow
              have hnc : r1.fs.length ≤ cA := by
                rcases hrow.2 with ⟨e, h0⟩ | ⟨_, _, _, e, _, _, h5, _⟩
                · omega
                · cases e; exact h5
              have hAn : (A1 : Option Addr) = none → n = 0 := fun e => by
                rcases hrow.2 with ⟨_, h0⟩ | ⟨_, _, _, e2, _⟩
                · have := HNN.out; omega
                · rw [e] at e2; cases e2
              rw [← HNN.out] at hnc
              have hsl1 := fun W => runF_h A1 n cA j (by omega) W j rfl
              have hsl2 := fun W => runF_l A1 n cA j (by omega) W j rfl
              have fr1 := cutF_from hrow rfl (l := 0) (h := j) (Nat.zero_le _) (by have := HNN.out; omega)
              have fr2 := cutF_from hrow rfl (l := j) (h := r1.fs.length) (by have := HNN.out; omega) (Nat.le_refl _)
              rw [List.drop_zero] at fr1
              rw [List.take_length] at fr2
              have l1 : (cellsF (r1.fs.take j)).length = j * 3 := by rw [cellsF_length, List.length_take]; have := HNN.out; omega
              have l2 : (cellsF (r1.fs.drop j)).length = (n - j) * 3 := by rw [cellsF_length, List.length_drop, ← HNN.out]
              obtain ⟨fs', hfs'⟩ : ∃ fs', fs' = r1.fs.take j ++ ⟨⟨s, [], 0⟩, none, 0⟩ :: r1.fs.drop j := ⟨_, rfl⟩
              have l3 : j + 1 + (n - j) = fs'.length := by rw [hfs', List.length_append, List.length_take, List.length_cons, List.length_drop]; have := HNN.out; omega
              have HE := Lib.hid (And.intro hfs' (show cellsF (r1.fs.take j) ++ cellsF [⟨⟨s, [], 0⟩, none, 0⟩] ++ cellsF (r1.fs.drop j) = cellsF fs' by rw [hfs', cellsF_append]; simp [cellsF]))
              have HFR := Lib.hid (And.intro fr1 (And.intro l1 (And.intro l2 (And.intro l3 (show j ≤ n ∧ n < 64 by have := HNN.out; have := HNO.out.1; omega)))))
              have HF2 := Lib.hid (fun X (hb : Below wr.heap.size wr X) ad he i u hi => (World.cell?_of_block (w := wr) (w' := X) (a := ad.add i) (hb.block _ (World.block_lt_of_cell? wr _ (fr2 ad he i u hi)))).trans (fr2 ad he i u hi))
              have HCB := Lib.hid (fun X (hb : Below wr.heap.size wr X) => (hb.cell (p := ⟨r.B, 1, none⟩) (World.block_lt_of_cell? wr _ q1)).trans q1)
              obtain ⟨iF, hi, hz0, hz1, hz2⟩ := info_parts infoFile
              have HIF := Lib.hid (And.intro hi (And.intro hz0 (And.intro hz1 hz2)))
              have fz : wr.frozen? ⟨r.B, 1, none⟩ = false := HB2.out ▸ HW.out.1.box.frozen 1
              have HAN := Lib.hid hAn
              clear fr1 fr2 l1 l2 l3 hi hz0 hz1 hz2 hrow hnc hfs' hAn
              go_upto_region 16 with (first
                | (at_builtin; refine wpList_append_from _ rfl (.tmp 74) (.tmp 80) 72 rfl wr.heap.size 87 iF _ 3 48 Try.underlying72 HIF.out.1 HIF.out.2.1 HIF.out.2.2.1 HIF.out.2.2.2 rfl (by decide) (.slice none 0 0) 0 [] rfl (World.ownsRow_nil _ _ _ _) (cutAtF A1 0 cA) j cA (cellsF (r1.fs.take j)) rfl (fun h => cutF_none (n := j) (fun e => by have := HAN.out e; have := HFR.out.2.2.2.2; omega) h) HFR.out.2.1 HFR.out.1 (cellsF_one _) (by have := HFR.out.2.2.2.2; unfold maxLen; omega) (by have := HFR.out.2.2.2.2; omega) (Nat.le_refl _) ?_; intro v3 w3 hown hgrow hat; rw [Nat.zero_add, List.nil_append] at hown; have hb3 := Below.grown (Below.refl wr.heap.size wr) hgrow (Nat.le_refl _) (fun k hk => by cases hk); have H3 := Lib.hid (And.intro hown hb3); have N3 := Lib.hid (Whole.new w3 87 #[.string s, .slice none 0 0, .int .i64 0]); clear hown hgrow hat hb3)
                | (at_builtin; refine wpList_append_from _ rfl (.tmp 82) (.tmp 85) 72 rfl wr.heap.size 87 iF _ 3 48 Try.underlying72 HIF.out.1 HIF.out.2.1 HIF.out.2.2.1 HIF.out.2.2.2 rfl (by decide) v3 j (cellsF (r1.fs.take j)) rfl (H3.out.1.alloc _) (some ⟨w3.heap.size, 0, none⟩) 1 1 (cellsF [⟨⟨s, [], 0⟩, none, 0⟩]) rfl (fun h => by cases h) rfl (new_from w3 s) (cellsF_one _) (by have := HFR.out.2.2.2.2; unfold maxLen; omega) (by have := HFR.out.2.2.2.2; omega) (by have := H3.out.2.size; simp; omega) ?_; intro v4 w4 hown hgrow hat; have hb4 := Below.grown (H3.out.2.alloc H3.out.2.size _) hgrow (by have := H3.out.2.size; simp; omega) (fun k hk => (H3.out.1.lt k hk).1); have e4 := HCB.out _ hb4; have H4 := Lib.hid (And.intro hown hb4); clear hown hgrow hat hb4)
                | (at_builtin; refine wpList_append_from _ rfl (.tmp 87) (.tmp 93) 72 rfl wr.heap.size 87 iF _ 3 48 Try.underlying72 HIF.out.1 HIF.out.2.1 HIF.out.2.2.1 HIF.out.2.2.2 rfl (by decide) v4 (j + 1) (cellsF (r1.fs.take j) ++ cellsF [⟨⟨s, [], 0⟩, none, 0⟩]) rfl H4.out.1 (cutAtF A1 j cA) (n - j) (cA - j) (cellsF (r1.fs.drop j)) rfl (fun h => cutF_none (n := n - j) (fun e => by have := HAN.out e; omega) h) HFR.out.2.2.1 (HF2.out _ H4.out.2) (cellsF_one _) (by have := HFR.out.2.2.2.2; unfold maxLen; omega) (by have := HFR.out.2.2.2.2; omega) H4.out.2.size ?_; intro v5 w5 hown hgrow hat; rw [HE.out.2, HFR.out.2.2.2.1] at hown; obtain ⟨A5, c5, rfl⟩ := own_shape hown; have hb5 := Below.grown H4.out.2 hgrow H4.out.2.size (fun k hk => (H4.out.1.lt k hk).1); have e5 := HCB.out _ hb5; have z5 : w5.frozen? ⟨r.B, 1, none⟩ = false := (World.frozen?_of_block (hb5.block _ (World.block_lt_of_cell? wr _ q1))).trans fz; have H5 := Lib.hid (And.intro hown hb5); clear hown hgrow hat hb5))
              have hat := HW.out.1.relist H5.out.1 H5.out.2 (fun f hf => by
                  rw [HE.out.1] at hf
                  rcases List.mem_append.1 hf with hf | hf
                  · exact .inl (List.mem_of_mem_take hf)
                  · rcases List.mem_cons.1 hf with rfl | hf
                    · exact .inr ⟨rfl, rfl, HNO.out.2.2⟩
                    · exact .inl (List.mem_of_mem_drop hf)) (by rw [HE.out.1, new_sizes]; exact HW.out.1.used) (by rw [← HFR.out.2.2.2.1]; have := HFR.out.2.2.2.2; omega)
              rw [HB2.out] at hat
              obtain ⟨r2, hr2⟩ : ∃ r2 : Rk, r2 = { r1 with B := r.B, F := .slice A5 fs'.length c5, fs := fs' } := ⟨_, rfl⟩
              have hat2 : RkAt (w5.setCell ⟨r.B, 1, none⟩ (.slice A5 fs'.length c5)) r2 := by rw [hr2, ← HB2.out]; exact HB2.out ▸ hat.1
              have HAT := Lib.hid hat2
              obtain ⟨f0, hf0⟩ : ∃ f0 : Rf, f0 = ⟨⟨s, [], 0⟩, none, 0⟩ := ⟨_, rfl⟩
              have hjl : (r1.fs.take j).length = j := by rw [List.length_take]; have := HNN.out; have := HFR.out.2.2.2.2; omega
              have HGG := Lib.hid (show r2.fs[j]? = some f0 by rw [hr2, hf0]; show fs'[j]? = _; rw [HE.out.1, List.getElem?_append_right (by omega), hjl, Nat.sub_self]; rfl)
              have HRM := Lib.hid (show ({ r2.rm with fs := modV r2.rm.fs j (addV bs) } : Rm) = { r1.rm with fs := (rvs r1.fs).take (insR (rvs r1.fs) s) ++ ⟨s, bs, 0⟩ :: (rvs r1.fs).drop (insR (rvs r1.fs) s) } by
                rw [HINS.out, hr2]
                have e1 : rvs fs' = (rvs r1.fs).take j ++ ⟨s, [], 0⟩ :: (rvs r1.fs).drop j := by rw [HE.out.1]; unfold rvs; simp only [List.map_append, List.map_cons, List.map_take, List.map_drop]
                have e2 := mod_new ((rvs r1.fs).take j) ((rvs r1.fs).drop j) ⟨s, [], 0⟩ (addV bs)
                rw [show ((rvs r1.fs).take j).length = j by unfold rvs; rw [← List.map_take, List.length_map]; exact hjl, ← e1] at e2
                show Rm.mk _ (modV (rvs fs') j (addV bs)) _ _ _ = Rm.mk _ _ _ _ _
                rw [e2]; rfl)
              have HBS2 := Lib.hid (show sizes (rvs r2.fs) + bs.length ≤ r2.room by rw [hr2]; show sizes (rvs fs') + bs.length ≤ r1.room; rw [HE.out.1, new_sizes]; exact HBS.out.1)
              have HKK := Lib.hid (show Kp r.own w (w5.setCell ⟨r.B, 1, none⟩ (.slice A5 fs'.length c5)) ∧ ∀ i, r2.own i → r.own i ∨ w.heap.size ≤ i from by
                subst hr2
                refine ⟨HW.out.2.1.trans hat.2.1 (fun i hi => .inl (HB.out.2 ▸ hi)), fun i hi => ?_⟩
                rcases hat.2.2 i hi with h | h
                · exact .inl (HB.out.2 ▸ h)
                · exact .inr (Nat.le_trans HW.out.2.1.size h))
              have HB2 := Lib.hid (show r2.B = r.B by rw [hr2])
              have HR := HX0
              generalize w5.setCell ⟨r.B, 1, none⟩ (.slice A5 fs'.length c5) = wX at HAT HKK ⊢
              have HBT := Lib.hid (fun X (hb : Below wX.heap.size wX X) => Src.bytes (Src.below (HAA.out.kp HKK.out.1) hb))
              clear hat hat2 hr2 hf0 hjl e4 e5 z5 q1 fz hsl1 hsl2 HFR HF2 HCB H3 H4 H5 N3 HE
              obtain ⟨g, cg, hFg, d1, _, f1, _, ff, _⟩ := HAT.out.file HGG.out
              have HFG := Lib.hid hFg
              rw [HB2.out] at d1
              have e1 := ff (j * 3 + 1)
              have hmemT := List.mem_of_getElem? HGG.out
              have HSR := Lib.hid (And.intro (HAT.out.src hmemT) (HAT.out.len hmemT))
              have HKC := Lib.hid (fun X (hb : Below wX.heap.size wX X) => (show X.cell? ⟨r.B, 1, none⟩ = some (.slice (some ⟨g, 0, none⟩) r2.fs.length cg) ∧ X.cell? ⟨g, j * 3 + 1, none⟩ = some (.slice f0.A f0.vw.has.length f0.c) ∧ X.frozen? ⟨g, j * 3 + 1, none⟩ = false from
                ⟨(hb.cell (p := ⟨r.B, 1, none⟩) (World.block_lt_of_cell? wX _ d1)).trans d1, (hb.cell (p := ⟨g, j * 3 + 1, none⟩) (World.block_lt_of_cell? wX _ f1)).trans f1, (World.frozen?_of_block (hb.block g (World.block_lt_of_cell? wX _ f1))).trans e1⟩))
              have HLT := Lib.hid (List.getElem?_eq_some_iff.1 HGG.out).1
              have hltT : j < r2.fs.length := HLT.out
              have h64T : r2.fs.length ≤ 64 := HAT.out.many
              clear hFg e1 ff hmemT
              go_wp2_with (first
                | (at_builtin; refine wpList_append_from _ rfl (.tmp 99) (.tmp 107) 22 rfl wX.heap.size 5 i0 _ 1 1 Try.underlying22 HI.out.1 HI.out.2.1 HI.out.2.2.1 HI.out.2.2.2 rfl (by decide) (.slice none 0 0) 0 [] rfl (World.ownsRow_nil _ _ _ _) f0.A f0.vw.has.length f0.c (cellsB f0.vw.has) rfl HSR.out.1.none (by simp [cellsB]) (cellsB_from HSR.out.1) (cellsB_one _) (by have := HSR.out.2; unfold maxLen; omega) (by have := HSR.out.2; omega) (Nat.le_refl _) ?_; intro v6 w6 hown hgrow hat; rw [Nat.zero_add, List.nil_append] at hown; have hb6 := Below.grown (Below.refl wX.heap.size wX) hgrow (Nat.le_refl _) (fun k hk => by cases hk); obtain ⟨x6, y6, z6⟩ := HKC.out _ hb6; have HA6 := Lib.hid (HBT.out _ hb6); have H6 := Lib.hid (And.intro hown hb6); clear hown hgrow hat hb6 d1 f1)
                | (at_builtin; refine wpList_append_from _ rfl (.tmp 109) (.tmp 110) 22 rfl wX.heap.size 5 i0 _ 1 1 Try.underlying22 HI.out.1 HI.out.2.1 HI.out.2.2.1 HI.out.2.2.2 rfl (by decide) v6 f0.vw.has.length (cellsB f0.vw.has) rfl H6.out.1 A bs.length c (cellsB bs) rfl HA6.out.none (by simp [cellsB]) (cellsB_from HA6.out) (cellsB_one _) (by have := HSR.out.2; have := HBS.out.2; unfold maxLen; omega) (by have := HSR.out.2; have := HBS.out.2; omega) H6.out.2.size ?_; intro v7 w7 hown hgrow hat; rw [← cellsB_app] at hown; obtain ⟨A7, c7, rfl⟩ := own_shape hown; have hb7 := Below.grown H6.out.2 hgrow H6.out.2.size (fun k hk => (H6.out.1.lt k hk).1); obtain ⟨x7, y7, z7⟩ := HKC.out _ hb7; have H7 := Lib.hid (And.intro hown hb7); clear hown hgrow hat hb7 x6 y6 z6))
              go_ret
              rw [HR.out]
              refine RRes.later (r1 := r2) HKK.out.1 HB2.out HKK.out.2 ?_
              obtain ⟨r', q1, q2, q3, q4, q5⟩ := rapp_at HAT.out HGG.out HFG.out H7.out.2 H7.out.1 HBY.out.1 HBS2.out
              exact ⟨rfl, r', q1, q2.trans HRM.out, q3, q4, q5⟩
end Go.Proofs.Ytkieacidpiffpaa
