/- The document's own Weight: what it comes to for a value, whatever it is. -/
import Derived.Test.YtjknicljbmakeaaDoorRefD
import Derived.Test.YtjknicljbmakeaaDoorWeight
import Derived.BigQuiet
import Derived.Lib.QuietBelow
namespace Go.Proofs.YtjknicljbmakeaaDoor
open Go Go.RowKit Go.Sort

theorem wrap_small (x : Int) (h0 : 0 ≤ x) (h1 : x < 9223372036854775808) : IntKind.i64.wrap x = x := by
  simp [IntKind.wrap, IntKind.bits, IntKind.signed]
  omega
theorem weights_get : ∀ (l : List GV) (k : Nat) (h : k < l.length), l[k].weight ≤ GV.weights l
  | [], _, h => by simp at h
  | x :: r, 0, _ => by simp [GV.weights]
  | x :: r, k + 1, h => by
    have := weights_get r k (by simpa using h)
    simp only [GV.weights, List.getElem_cons_succ]
    omega

/-- Between the rounds: how far, and what was come to. -/
def WtRel (W0 : World) (ks : List ByteArray) (l : List GV) (z : Nat) (n i : Value) (wr : World) : Prop := ∃ k : Nat, i = .int .i64 k ∧ k ≤ l.length ∧ n = .int .i64 (z + ksum (ks.take k) + GV.weights (l.take k) : Nat) ∧ Below W0.heap.size W0 wr

set_option maxHeartbeats 8000000 in
theorem ref_Weight (F : Nat) : ∀ (ok : Nat → Prop) (v : Value) (g : GV) (w : World), g.size ≤ F → g.val ok w v → g.weight ≤ 1000000000 →
    Calls Tryd.prog 23 #[v] w fun e w' => e = .returned (.int .i64 g.weight) ∧ Below w.heap.size w w' := by
  induction F with
  | zero => intro ok v g w hF; cases g with | mk k n s l ks ov => simp only [GV.size] at hF; omega
  | succ F ih =>
    intro ok v g w hF hv hsz
    obtain ⟨L, O, rfl, hL, hO⟩ := hv
    have hkl := hO.1
    obtain ⟨A, c, rfl, hc1, hc2, hf⟩ := hL.form
    obtain ⟨A', c', rfl, hc1', hc2', hf'⟩ := hO.form
    have hge := size_eq g
    have hde : g.weight = 1 + g.str.size + GV.weights g.items + ksum g.keys + GV.weights g.vals := by cases g with | mk k n s l ks ov => simp only [GV.weight, GV.items, GV.vals, GV.keys, GV.str, ksum]
    have hs9 := size_le_weight g
    have hln1 := len_sizes g.items
    have hln2 := len_sizes g.vals
    rw [hde] at hsz hs9 ⊢
    unfold maxLen at hc2 hc2'
    generalize g.items = l at *
    generalize g.vals = ov at *
    generalize g.keys = ks at *
    generalize g.kind = gk
    generalize g.num = gn
    generalize g.str = gs at *
    have IH := Lib.hid ih
    have HF := Lib.hid hf
    have HF' := Lib.hid hf'
    have HSZ := Lib.hid (And.intro hF (And.intro hsz hge))
    have hll : l.length ≤ 1000000000 := by omega
    have hlo : ov.length ≤ 1000000000 := by omega
    have hgs : gs.size ≤ 1000000000 := by omega
    have HKL := Lib.hid hkl
    clear ih hf hf' hF hsz hge hL hO hde hs9 hln1 hln2 hkl
    go_enter Tryd.func23, Tryd.ntmps23
    go_wp2
    have hB : Below w.heap.size w (w.alloc (.cells #[Value.int IntKind.u8 gk, Value.int IntKind.i64 gn, Value.string gs, Value.slice A l.length c, Value.slice A' ov.length c'] 28)) := (Below.refl _ _).alloc (Nat.le_refl _) _
    have hW := Whole.new w 28 #[Value.int IntKind.u8 gk, Value.int IntKind.i64 gn, Value.string gs, Value.slice A l.length c, Value.slice A' ov.length c']
    generalize (w.alloc (.cells #[Value.int IntKind.u8 gk, Value.int IntKind.i64 gn, Value.string gs, Value.slice A l.length c, Value.slice A' ov.length c'] 28)) = W0 at hB hW ⊢
    have HW := Lib.hid hW
    have HB := Lib.hid hB
    clear hW hB
    go_loopw [3, 4] (WtRel W0 [] l (1 + gs.size)) (fun _ i _ => l.length - (intOf i).toNat)
    case atStart => exact ⟨0, rfl, Nat.zero_le _, by simp [GV.weights, ksum], Below.refl _ _⟩
    case round =>
      obtain ⟨k, rfl, hk, rfl, hr⟩ := hrel
      have hx3 : wr.cell? ⟨w.heap.size, 3, none⟩ = some (.slice A l.length c) := ((HW.out.below hr HW.out.lt).cell 3).trans rfl
      have hwr : Below w.heap.size w wr := HB.out.trans (hr.mono HB.out.size)
      have HR := Lib.hid hr
      clear hr
      have hd0 : 1 + gs.size + ksum (([] : List ByteArray).take k) + GV.weights (l.take k) ≤ 1000000000 := by have := weights_take_le l k; have := HSZ.out; simp [ksum]; omega
      by_cases hlt : k < l.length
      · obtain ⟨b, o, rfl, hK, hE⟩ := HF.out (by intro e; rw [e] at hlt; simp at hlt)
        obtain ⟨A1, c1, A2, c2, hcells, hval⟩ := item_at hE hK hlt
        obtain ⟨q0, q1, q2, q3, q4⟩ := hcells wr hwr
        have hz := hval wr hwr
        have hs := sizes_get l k hlt
        have hs2 := HSZ.out
        have hs3 := weights_get l k hlt
        have hxd : l[k].weight ≤ 1000000000 := by omega
        have hcall := IH.out _ _ l[k] wr (by omega) hz (by omega)
        have hT := weights_take l k hlt
        have hT2 := weights_take_le l (k + 1)
        have hd1 : 1 + gs.size + ksum (([] : List ByteArray).take k) + GV.weights (l.take k) + l[k].weight ≤ 1000000000 := by simp [ksum]; omega
        have HT := Lib.hid hT
        have HC := Lib.hid hcall
        clear hcells hval hz hs hs2 hs3 hcall hE hK hT hT2
        generalize l[k] = x at *
        generalize hm : 1 + gs.size + ksum (([] : List ByteArray).take k) + GV.weights (l.take k) = m at *
        have HM := Lib.hid hm
        clear hm
        go_wp2_with (go_at_call 23; refine HC.out.mono ?_; rintro e W1 ⟨rfl, hb1⟩; have HB1 := Lib.hid hb1; clear hb1)
        go_roundw
        case rel => exact ⟨k + 1, by go_simp, by omega, by have h1 := HT.out; have h2 := HM.out; congr 1; rw [h1, ← h2]; simp [ksum]; omega, HR.out.trans (HB1.out.mono HR.out.size)⟩
        case measure => simp [intOf]; omega
      · have hkl : k = l.length := by omega
        subst hkl
        have hz0 : 1 + gs.size + ksum (([] : List ByteArray).take l.length) + GV.weights (l.take l.length) = 1 + gs.size + GV.weights l := by simp [ksum]
        rw [hz0] at *
        generalize hz : 1 + gs.size + GV.weights l = z at *
        have HZ := Lib.hid hz
        clear hz hz0
        go_wp2
        clear hx3 hwr
        go_loopw [3, 5] (WtRel W0 ks ov z) (fun _ i _ => ov.length - (intOf i).toNat)
        case atStart => exact ⟨0, rfl, Nat.zero_le _, by simp [GV.weights, ksum], HR.out⟩
        case round =>
          clear HR
          obtain ⟨k, rfl, hk, rfl, hr⟩ := hrel
          have hx4 : wr.cell? ⟨w.heap.size, 4, none⟩ = some (.slice A' ov.length c') := ((HW.out.below hr HW.out.lt).cell 4).trans rfl
          have hwr : Below w.heap.size w wr := HB.out.trans (hr.mono HB.out.size)
          have HR := Lib.hid hr
          clear hr
          have hd0 : z + ksum (ks.take k) + GV.weights (ov.take k) ≤ 1000000000 := by have := weights_take_le ov k; have := ksum_le ks k; have := HSZ.out; have := HZ.out; omega
          by_cases hlt : k < ov.length
          · obtain ⟨b, o, rfl, hK, hks, hE⟩ := HF'.out (by intro e; rw [e] at hlt; simp at hlt)
            have hlk : k < ks.length := by have := HKL.out; omega
            obtain ⟨A1, c1, A2, c2, hcells, hval⟩ := field_at hks hE hK hlt hlk
            obtain ⟨q0, q1, q2, q3, q4, q5⟩ := hcells wr hwr
            have r0 := cell_regrown q0
            have r1 := cell_regrown q1
            have r2 := cell_regrown q2
            have r3 := cell_regrown q3
            have r4 := cell_regrown q4
            have r5 := cell_regrown q5
            have rx := cell_regrown hx4
            have hs := sizes_get ov k hlt
            have hs2 := HSZ.out
            have hs3 := weights_get ov k hlt
            have hxd : ov[k].weight ≤ 1000000000 := by omega
            have hcall := fun (d : Nat) (os : Array Obj) => Calls.regrown_of (IH.out _ _ ov[k] (grow (redrawn wr d) os) (by omega) (hval _ (hwr.trans ((below_regrown wr d os).mono hwr.size))) (by omega))
            have hT := weights_take ov k hlt
            have hU := ksum_take ks k hlk
            have hT2 := weights_take_le ov (k + 1)
            have hU2 := ksum_le ks (k + 1)
            have hz2 := HZ.out
            have hd1 : z + ksum (ks.take k) + GV.weights (ov.take k) + (ks[k].size + ov[k].weight) ≤ 1000000000 := by omega
            have hks0 : ks[k].size ≤ 1000000000 := by omega
            have HT := Lib.hid (And.intro hT hU)
            clear hcells hval hs hs2 hs3 hE hK hks hT hT2 hU hU2 hz2
            generalize ov[k] = x at *
            generalize ks[k] = kk at *
            generalize hm : z + ksum (ks.take k) + GV.weights (ov.take k) = m at *
            have HM := Lib.hid hm
            clear hm
            go_wp2
            refine wp_region_quiet_below (by kernel_rfl) (by kernel_rfl) ?_
            repeat (quiet_step (exact hcall _ _))
            refine wpQuiet_nil ?_
            intro _ hw'
            obtain ⟨⟨dq, osq⟩, hw''⟩ := hw'
            subst hw''
            go_wp2
            go_roundw
            case rel => exact ⟨k + 1, by go_simp, by omega, by have h1 := HT.out; have h2 := HM.out; congr 1; rw [wrap_small ((kk.size : Int) + (x.weight : Int)) (by omega) (by omega), wrap_small _ (by omega) (by omega), h1.1, h1.2, ← h2]; omega, HR.out.trans ((below_regrown wr dq osq).mono HR.out.size)⟩
            case measure => simp [intOf]; omega
          · have hkl : k = ov.length := by omega
            subst hkl
            go_wp2
            refine bodyPost_ret (v := .int .i64 (z + ksum (ks.take ov.length) + GV.weights (ov.take ov.length) : Nat)) (by simp [results, Tryd.results23, go_sem]) rfl ?_
            refine ⟨?_, hwr⟩
            rw [← HZ.out, ← HKL.out, List.take_length, HKL.out, List.take_length]
end Go.Proofs.YtjknicljbmakeaaDoor
