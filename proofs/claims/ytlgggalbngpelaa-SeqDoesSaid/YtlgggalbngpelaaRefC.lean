/- The document's own Copy: for a value, whatever it is, the same one in new memory. -/
import Derived.Test.YtlgggalbngpelaaBaseA
import Derived.Test.YtlgggalbngpelaaBaseB
import Derived.Deep.RegionHeld3
namespace Go.Proofs.Ytlgggalbngpelaa
open Go Go.RowKit Go.Sort

/-- Between the rounds of the first loop. -/
def CopyRel1 (W0 : World) (l : List GV) (ks : List ByteArray) (ov : List GV) (v i : Value) (wr : World) : Prop := ∃ (k : Nat) (xs : List Value), i = .int .i64 k ∧ k ≤ l.length ∧ Rows W0.heap.size W0 l ks ov k 0 v (.slice none 0 0) xs [] wr
/-- Between the rounds of the second one. -/
def CopyRel2 (W0 : World) (l : List GV) (ks : List ByteArray) (ov : List GV) (vL v i : Value) (wr : World) : Prop := ∃ (k : Nat) (xs ys : List Value), i = .int .i64 k ∧ k ≤ ov.length ∧ Rows W0.heap.size W0 l ks ov l.length k vL v xs ys wr

set_option maxRecDepth 100000 in
set_option maxHeartbeats 8000000 in
theorem ref_Copy (F : Nat) : ∀ (ok : Nat → Prop) (v : Value) (g : GV) (w : World), g.size ≤ F → g.val ok w v → g.size ≤ 1000000000 →
    Calls Try.prog 30 #[v] w fun e w' => ∃ v', e = .returned v' ∧ g.val (fun k => w.heap.size ≤ k) w' v' ∧ Below w.heap.size w w' := by
  induction F with
  | zero => intro ok v g w hF; cases g with | mk k n s l ks ov => simp only [GV.size] at hF; omega
  | succ F ih =>
    intro ok v g w hF hv hsz
    obtain ⟨L, O, rfl, hL, hO⟩ := hv
    have hkl := hO.1
    obtain ⟨A, c, rfl, hc1, hc2, hf⟩ := hL.form
    obtain ⟨A', c', rfl, hc1', hc2', hf'⟩ := hO.form
    have hge := size_eq g
    have hln1 := len_sizes g.items
    have hln2 := len_sizes g.vals
    have hfin : ∀ (W : World) (L O : Value), LstV (fun k => w.heap.size ≤ k) W L g.items → ObjV (fun k => w.heap.size ≤ k) W O g.keys g.vals → g.val (fun k => w.heap.size ≤ k) W (.agg #[.int .u8 g.kind, .int .i64 g.num, .string g.str, L, O]) := fun W L O h1 h2 => ⟨L, O, rfl, h1, h2⟩
    unfold maxLen at hc2 hc2'
    have FIN := Lib.hid hfin
    clear hfin
    generalize g.items = l at *
    generalize g.vals = ov at *
    generalize g.keys = ks at *
    generalize g.kind = gk at *
    generalize g.num = gn at *
    generalize g.str = gs at *
    have IH := Lib.hid ih
    have HF := Lib.hid hf
    have HF' := Lib.hid hf'
    have HSZ := Lib.hid (And.intro hF (And.intro hsz hge))
    have hll : l.length ≤ 1000000000 := by omega
    have hlo : ov.length ≤ 1000000000 := by omega
    have HKL := Lib.hid hkl
    clear ih hf hf' hF hsz hge hL hO hln1 hln2 hkl
    obtain ⟨i0, hi0, hz0, hz1, hz2⟩ := info_parts infoVal
    obtain ⟨i1, hi1, hy0, hy1, hy2⟩ := info_parts infoField
    have HI0 := Lib.hid (And.intro hi0 (And.intro hz0 (And.intro hz1 hz2)))
    have HI1 := Lib.hid (And.intro hi1 (And.intro hy0 (And.intro hy1 hy2)))
    clear hi0 hz0 hz1 hz2 hi1 hy0 hy1 hy2
    go_enter Try.func30, Try.ntmps30
    go_wp2
    have hB : Below w.heap.size w ((w.alloc (.cells #[Value.int IntKind.u8 gk, Value.int IntKind.i64 gn, Value.string gs, Value.slice A l.length c, Value.slice A' ov.length c'] 27)).alloc (.cells #[.int .u8 0, .int .i64 0, .string ⟨#[]⟩, .slice none 0 0, .slice none 0 0] 27)) := ((Below.refl _ _).alloc (Nat.le_refl _) _).alloc (by simp) _
    have hW := (Whole.new w 27 #[Value.int IntKind.u8 gk, Value.int IntKind.i64 gn, Value.string gs, Value.slice A l.length c, Value.slice A' ov.length c']).alloc (.cells #[.int .u8 0, .int .i64 0, .string ⟨#[]⟩, .slice none 0 0, .slice none 0 0] 27)
    have hV := Whole.new (w.alloc (.cells #[Value.int IntKind.u8 gk, Value.int IntKind.i64 gn, Value.string gs, Value.slice A l.length c, Value.slice A' ov.length c'] 27)) 27 #[.int .u8 0, .int .i64 0, .string ⟨#[]⟩, .slice none 0 0, .slice none 0 0]
    rw [World.size_alloc] at hV
    have hs0 : ((w.alloc (.cells #[Value.int IntKind.u8 gk, Value.int IntKind.i64 gn, Value.string gs, Value.slice A l.length c, Value.slice A' ov.length c'] 27)).alloc (.cells #[.int .u8 0, .int .i64 0, .string ⟨#[]⟩, .slice none 0 0, .slice none 0 0] 27)).heap.size = w.heap.size + 2 := by simp
    generalize ((w.alloc (.cells #[Value.int IntKind.u8 gk, Value.int IntKind.i64 gn, Value.string gs, Value.slice A l.length c, Value.slice A' ov.length c'] 27)).alloc (.cells #[.int .u8 0, .int .i64 0, .string ⟨#[]⟩, .slice none 0 0, .slice none 0 0] 27)) = W0 at hB hW hV hs0 ⊢
    have HW := Lib.hid hW
    have HV := Lib.hid hV
    have HB := Lib.hid hB
    have HS0 := Lib.hid hs0
    clear hW hV hB hs0
    go_loopw [3, 4] (CopyRel1 W0 l ks ov) (fun _ i _ => l.length - (intOf i).toNat)
    case atStart => exact ⟨0, [], rfl, Nat.zero_le _, Rows.start _ _ _ _⟩
    case round =>
      obtain ⟨k, xs, rfl, hk, hr⟩ := hrel
      obtain ⟨AL, cL, rfl⟩ := own_form hr.ownL
      have hx3 : wr.cell? ⟨w.heap.size, 3, none⟩ = some (.slice A l.length c) := ((HW.out.below hr.below HW.out.lt).cell 3).trans rfl
      have hwr : Below w.heap.size w wr := HB.out.trans (hr.below.mono HB.out.size)
      by_cases hlt : k < l.length
      · obtain ⟨b, o, rfl, hK, hE⟩ := HF.out (by intro e; rw [e] at hlt; simp at hlt)
        obtain ⟨A1, c1, A2, c2, hcells, hval⟩ := item_at hE hK hlt
        obtain ⟨q0, q1, q2, q3, q4⟩ := hcells wr hwr
        have hs := sizes_get l k hlt
        have hcall := IH.out _ _ l[k] wr (by have := HSZ.out; omega) (hval wr hwr) (by have := HSZ.out; omega)
        have HG := Lib.hid (List.getElem?_eq_getElem hlt)
        have HC := Lib.hid hcall
        have HR := Lib.hid hr
        have hmax : k + 1 ≤ maxLen := by unfold maxLen; omega
        have hby : (k + 1) * 80 ≤ 140737488355328 := by omega
        have HM := Lib.hid (And.intro hmax hby)
        clear hcells hval hs hcall hE hK hr hwr hmax hby
        generalize l[k] = x at *
        go_wp2_with (first | (go_at_call 30; refine HC.out.mono ?_; rintro e W1 ⟨v', rfl, ⟨L1, O1, rfl, hL1, hO1⟩, hb1⟩; obtain ⟨BL, dL, rfl⟩ := lst_form hL1; obtain ⟨BO, dO, rfl⟩ := obj_form hO1; have H1 := Lib.hid (And.intro hL1 (And.intro hO1 hb1)); clear hL1 hO1 hb1) | (at_builtin; refine wpList_append_own_at _ rfl (.tmp 14) (.tmp 21) 24 rfl W0.heap.size 27 i0 _ 5 80 Try.underlying24 HI0.out.1 HI0.out.2.1 HI0.out.2.2.1 HI0.out.2.2.2 rfl (by decide) (.slice AL k cL) k xs rfl (((HR.out.step H1.out.2.2).step ((Below.refl _ W1).alloc (Nat.le_refl _) _)).ownL) ⟨W1.heap.size, 0, none⟩ 1 1 (chunk x (.slice BL x.items.length dL) (.slice BO x.vals.length dO)) rfl rfl (row_cells' _ _ rfl _ _) (by simp [chunk, Value.oneCell']) HM.out.1 HM.out.2 (((HR.out.step H1.out.2.2).step ((Below.refl _ W1).alloc (Nat.le_refl _) _)).size) ?_; intro v3 W3 hown3 hgrow3 _ hat3; obtain ⟨A3, c3, rfl⟩ := own_form hown3; have H3 := Lib.hid (And.intro hown3 (And.intro hgrow3 hat3)); clear hown3 hgrow3 hat3))
        go_roundw
        case rel => exact ⟨k + 1, _, by go_num, by omega, HR.out.addL HG.out H1.out.2.2 H1.out.1 H1.out.2.1 H3.out.1 H3.out.2.1 H3.out.2.2⟩
        case measure => simp [intOf]; omega
      · have hkl : k = l.length := by omega
        subst hkl
        have HR := Lib.hid hr
        clear hr hwr
        go_wp2
        clear hx3
        go_loopw [5, 6] (CopyRel2 W0 l ks ov (.slice AL l.length cL)) (fun _ i _ => ov.length - (intOf i).toNat)
        case atStart => exact ⟨0, _, _, rfl, Nat.zero_le _, HR.out⟩
        case round =>
          clear HR
          obtain ⟨k, xs, ys, rfl, hk, hr⟩ := hrel
          obtain ⟨AO, cO, rfl⟩ := own_form hr.ownO
          by_cases hlt : k < ov.length
          · have hwr : Below w.heap.size w wr := HB.out.trans (hr.below.mono HB.out.size)
            obtain ⟨b, o, rfl, hK, hks, hE⟩ := HF'.out (by intro e; rw [e] at hlt; simp at hlt)
            have hx4 : wr.cell? ⟨w.heap.size, 4, none⟩ = some (.slice (some ⟨b, o, none⟩) ov.length c') := ((HW.out.below hr.below HW.out.lt).cell 4).trans rfl
            have hlk : k < ks.length := by have := HKL.out; omega
            obtain ⟨A1, c1, A2, c2, hcells, hval⟩ := field_at hks hE hK hlt hlk
            have hs := sizes_get ov k hlt
            have hsz := HSZ.out
            have HC := Lib.hid (fun (W : World) (h : Below W0.heap.size W0 W) => IH.out _ _ ov[k] W (by omega) (hval W (HB.out.trans (h.mono HB.out.size))) (by omega))
            have HS := Lib.hid (fun (W : World) (h : Below W0.heap.size W0 W) => And.intro (((HW.out.below h HW.out.lt).cell 4).trans rfl : W.cell? ⟨w.heap.size, 4, none⟩ = some (.slice (some ⟨b, o, none⟩) ov.length c')) (hcells W (HB.out.trans (h.mono HB.out.size))))
            have HG := Lib.hid (And.intro (List.getElem?_eq_getElem hlt) (List.getElem?_eq_getElem hlk))
            have HR := Lib.hid hr
            have hmax : k + 1 ≤ maxLen := by unfold maxLen; omega
            have hby : (k + 1) * 96 ≤ 140737488355328 := by omega
            have HM := Lib.hid (And.intro hmax hby)
            have hk0 : (0 : Int) ≤ (k : Int) := by omega
            have hk1 : (k : Int) < (ov.length : Int) := by omega
            clear hcells hval hs hsz hE hK hks hr hwr hmax hby
            generalize ov[k] = x at *
            generalize ks[k] = kk at *
            go_wp2_with fail
            go_region_held3 (fun W => W.cell? ⟨w.heap.size, 4, none⟩ = some (.slice (some ⟨b, o, none⟩) ov.length c') ∧ W.cell? ⟨b, o + k * 6, none⟩ = some (.string kk) ∧ W.cell? ⟨b, o + k * 6 + 1, none⟩ = some (.int .u8 x.kind) ∧ W.cell? ⟨b, o + k * 6 + 1 + 1, none⟩ = some (.int .i64 x.num) ∧ W.cell? ⟨b, o + k * 6 + 1 + 2, none⟩ = some (.string x.str) ∧ W.cell? ⟨b, o + k * 6 + 1 + 3, none⟩ = some (.slice A1 x.items.length c1) ∧ W.cell? ⟨b, o + k * 6 + 1 + 4, none⟩ = some (.slice A2 x.vals.length c2))
              (first | exact HS.out _ H3.out.2.2.2 | exact HS.out _ ((HR.out.step H1.out.2.2).step ((Below.refl _ W1).alloc (Nat.le_refl _) _)).below | exact HS.out _ (HR.out.step H1.out.2.2).below | exact HS.out _ HR.out.below.drew)
              (first | (go_at_call 30; refine (HC.out _ HR.out.below.drew).mono ?_; rintro e W1 ⟨v', rfl, ⟨L1, O1, rfl, hL1, hO1⟩, hb1⟩; obtain ⟨BL, dL, rfl⟩ := lst_form hL1; obtain ⟨BO, dO, rfl⟩ := obj_form hO1; have hb2 : Below wr.heap.size wr W1 := (Below.refl _ _).drew.trans hb1; have H1 := Lib.hid (And.intro hL1 (And.intro hO1 hb2)); clear hL1 hO1 hb1 hb2) | (refine step_append_mine rfl (.tmp 30) (.tmp 45) 25 rfl W0.heap.size 79 i1 _ 6 96 Try.underlying25 HI1.out.1 HI1.out.2.1 HI1.out.2.2.1 HI1.out.2.2.2 rfl (by decide) (.slice AO k cO) k ys rfl ((HR.out.step H1.out.2.2).step ((Below.refl _ W1).alloc (Nat.le_refl _) _)).ownO ⟨W1.heap.size, 0, none⟩ 1 1 (.string kk :: chunk x (.slice BL x.items.length dL) (.slice BO x.vals.length dO)) rfl rfl (row_cells' _ _ rfl _ _) (by simp [chunk, Value.oneCell']) HM.out.1 HM.out.2 ((HR.out.step H1.out.2.2).step ((Below.refl _ W1).alloc (Nat.le_refl _) _)).size ?_; intro v3 W3 hown3 hgrow3 hat3; obtain ⟨A3, c3, rfl⟩ := own_form hown3; have H3 := Lib.hid (And.intro hown3 (And.intro hgrow3 (And.intro hat3 (HR.out.addO HG.out.1 HG.out.2 H1.out.2.2 H1.out.1 H1.out.2.1 hown3 hgrow3 hat3).below))); clear hown3 hgrow3 hat3))
            go_wp2
            go_roundw
            case rel => exact ⟨k + 1, _, _, by go_num, by omega, HR.out.addO HG.out.1 HG.out.2 H1.out.2.2 H1.out.1 H1.out.2.1 H3.out.1 H3.out.2.1 H3.out.2.2.1⟩
            case measure => simp [intOf]; omega
          · have hkl : k = ov.length := by omega
            subst hkl
            have hx4 : wr.cell? ⟨w.heap.size, 4, none⟩ = some (.slice A' ov.length c') := ((HW.out.below hr.below HW.out.lt).cell 4).trans rfl
            have hx := (HW.out.below hr.below HW.out.lt).five
            have hy := (HV.out.below hr.below HV.out.lt).five
            obtain ⟨a0, a1, a2, a3, a4, f0, f1, f2, f3, f4⟩ := hx
            obtain ⟨b0, b1, b2, b3, b4, e0, e1, e2, e3, e4⟩ := hy
            have HR := Lib.hid hr
            clear hr
            go_wp2
            refine bodyPost_ret (v := .agg #[.int .u8 gk, .int .i64 gn, .string gs, .slice AL l.length cL, .slice AO ov.length cO]) (by simp [results, Try.results30, go_sem, b0, b1, b2, b3, b4]) rfl ?_
            refine ⟨_, rfl, ?_, put5_below (((HB.out.trans (HR.out.below.mono HB.out.size)).setCell (Nat.le_refl _) _).setCell (Nat.le_refl _) _) (by omega) _ _ _ _ _⟩
            have hd := HR.out.done HKL.out (W := put5 ((wr.setCell ⟨w.heap.size, 3, none⟩ (.slice AL l.length cL)).setCell ⟨w.heap.size, 4, none⟩ (.slice AO ov.length cO)) (w.heap.size + 1) (.int .u8 gk) (.int .i64 gn) (.string gs) (.slice AL l.length cL) (.slice AO ov.length cO)) (fun j hj hlt => by
              rw [put5_block _ _ _ _ _ _ _ _ (by have := HS0.out; omega), Below.heap_setCell _ _ _ _ (by have := HS0.out; simp only; omega), Below.heap_setCell _ _ _ _ (by have := HS0.out; simp only; omega)]) (lo := w.heap.size) (by have := HS0.out; omega)
            exact FIN.out _ _ _ hd.1 hd.2
end Go.Proofs.Ytlgggalbngpelaa
