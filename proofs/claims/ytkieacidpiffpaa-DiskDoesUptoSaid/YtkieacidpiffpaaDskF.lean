/- A disk's files: synced, cut, crashed. -/
import Derived.Test.YtkieacidpiffpaaDskE
namespace Go.Proofs.Ytkieacidpiffpaa
open Go Go.RowKit
set_option linter.unusedVariables false
set_option linter.unusedSimpArgs false

def CloneOwn (bs : List Int) (w : World) (e : Ending) (w' : World) : Prop := ∃ B c, e = .returned (.slice B bs.length c) ∧ OwnB w.heap.size w' (.slice B bs.length c) bs ∧ Below w.heap.size w w'
theorem CloneOwn.mk {bs : List Int} {w w' : World} {v : Value} (h : OwnB w.heap.size w' v bs) (hb : Below w.heap.size w w') : CloneOwn bs w (.returned v) w' := by
  obtain ⟨B, c, rfl⟩ := own_shape h; exact ⟨B, c, rfl, h, hb⟩
set_option maxHeartbeats 1000000 in
theorem clone_own {hi : Nat} (A : Option Addr) (ca n : Nat) (bs : List Int) (w : World) (hA : Bytes hi w A bs) (hh : hi ≤ w.heap.size) (hs : bs.length ≤ 3000000) (hn : n = bs.length) :
    Calls Try.prog 35 #[.slice A n ca] w (CloneOwn bs w) := by
  subst hn
  obtain ⟨i0, hi, hz0, hz1, hz2⟩ := info_parts infoByte
  have HI := Lib.hid (And.intro hi (And.intro hz0 (And.intro hz1 hz2)))
  have HA := Lib.hid (hA.keep ((Below.refl w.heap.size w).alloc (Nat.le_refl _) (.cells #[] 5)) hh)
  have HN := Lib.hid hA.none
  clear hi hz0 hz1 hz2 hA
  have hnil := fun W => Go.Lib.run_eql_slice_nil (P := Try.prog) W 22 5 A bs.length ca 0 0 Try.underlying22
  cases A with
  | none =>
    have hemp := List.length_eq_zero_iff.1 (HN.out rfl)
    have HR : Hid (CloneOwn bs w (.returned (.slice none 0 0)) w) := Lib.hid (CloneOwn.mk (by subst hemp; exact World.ownsRow_nil _ _ _ _) (Below.refl _ _))
    clear hemp HN
    go_enter Try.func35, Try.ntmps35
    go_wp2
    go_ret
    exact HR.out
  | some a =>
    have HO : Hid (OwnB w.heap.size (w.alloc (.cells #[] 5)) (.slice (some ⟨w.heap.size, 0, none⟩) 0 0) []) := Lib.hid (World.ownsRow_lit w #[] 0 (Nat.le_refl _) (by unfold maxLen; omega) rfl)
    have HB : Hid (Below w.heap.size w (w.alloc (.cells #[] 5))) := Lib.hid ((Below.refl _ _).alloc (Nat.le_refl _) _)
    clear HN
    go_enter Try.func35, Try.ntmps35
    go_wp2_with (at_builtin; refine wpList_append_from _ rfl (.tmp 5) (.tmp 6) 22 rfl w.heap.size 5 i0 _ 1 1 Try.underlying22 HI.out.1 HI.out.2.1 HI.out.2.2.1 HI.out.2.2.2 rfl (by decide) (.slice (some ⟨w.heap.size, 0, none⟩) 0 0) 0 [] rfl HO.out (some a) bs.length ca (cellsB bs) rfl (fun h => by cases h) (by simp [cellsB]) (cellsB_from HA.out) (cellsB_one bs) (by unfold maxLen; omega) (by omega) (by simp) ?_; intro v' w1 hown hgrow hat; rw [Nat.zero_add, List.nil_append] at hown; have hb := grown_below HB.out hgrow HO.out (by simp); have HR : Hid (CloneOwn bs w (.returned v') w1) := Lib.hid (CloneOwn.mk hown hb); clear hown hgrow hat hb)
    go_ret
    exact HR.out
/-- A file is another one then. -/
def FOut (f : Fl) (v : Vw) (w : World) (e : Ending) (w' : World) : Prop :=
  e = .returned (.tuple #[]) ∧ ∃ row', FlAt w' ⟨v, f.blk, row'⟩ ∧ Kp f.own w w' ∧ ∀ i, (⟨v, f.blk, row'⟩ : Fl).own i → f.own i ∨ w.heap.size ≤ i
theorem FlAt.shape {w : World} {f : Fl} (h : FlAt w f) : ∃ A c, f.row = .slice A f.vw.has.length c ∧ f.vw.has.length ≤ c ∧ w.cell? ⟨f.blk, 0, none⟩ = some (.slice A f.vw.has.length c) ∧ w.cell? ⟨f.blk, 1, none⟩ = some (.int .i64 f.vw.lasts) ∧ (∀ i, w.frozen? ⟨f.blk, i, none⟩ = false) ∧ Bytes w.heap.size w A f.vw.has := by
  obtain ⟨A, c, hrow, hc, hb⟩ := own_bytes h.row rfl
  refine ⟨A, c, hrow, hc, by rw [h.box.cell]; show some f.row = _; rw [hrow], by rw [h.box.cell]; rfl, fun i => h.box.frozen i, ?_⟩
  rcases hb with hb | ⟨g, rfl, hb⟩
  · rw [hb]; exact Bytes.nil _ _ _
  · exact hb.bytes.up hb.lt
theorem fsync_any {w : World} {f : Fl} (h : FlAt w f) : Calls Try.prog 32 #[.pointer (some ⟨f.blk, 0, none⟩)] w (FOut f (syncV f.vw) w) := by
  obtain ⟨A, c, hrow, _, c0, c1, cf, _⟩ := h.shape
  have f1 := cf 1
  have HR : Hid (FOut f (syncV f.vw) w (.returned (.tuple #[])) (w.setCell ⟨f.blk, 1, none⟩ (.int .i64 f.vw.has.length))) := Lib.hid ⟨rfl, f.row, ⟨by have := h.box.put 1 (.int .i64 f.vw.has.length); exact this,
    h.row.of_eq fun k hk => Below.heap_setCell _ _ _ _ (fun e => h.apart (hk.trans (congrArg some e))), Nat.le_refl _, h.byte, h.apart, h.name⟩, Kp.setCell _ _ _ (.inl rfl), fun i hi => .inl hi⟩
  clear h hrow cf
  go_enter Try.func32, Try.ntmps32
  go_wp2
  go_end0
  exact HR.out
theorem cut_is {w w5 : World} {f : Fl} (h : FlAt w f) {n : Nat} (hn : n ≤ f.vw.has.length) {B : Option Addr} {c5 : Nat} (ho : OwnB w.heap.size w5 (.slice B n c5) (f.vw.has.take n)) (hb : Below w.heap.size w w5) :
    FOut f (cutV n f.vw) w (.returned (.tuple #[])) ((w5.setCell ⟨f.blk, 0, none⟩ (.slice B n c5)).setCell ⟨f.blk, 1, none⟩ (.int .i64 (min f.vw.lasts n : Nat))) := by
  have hlt := h.box.lt
  have hne : ∀ k, (Value.slice B n c5).ownBlock = some k → k ≠ f.blk := fun k hk e => by have := (ho.lt k hk).1; omega
  refine ⟨rfl, .slice B n c5, ⟨?_, ?_, ?_, h.byte.take n, fun e => hne _ e rfl, h.name⟩, ?_, fun i hi => ?_⟩
  · have := ((h.box.below hb hlt).put 0 (.slice B n c5)).put 1 (.int .i64 (min f.vw.lasts n : Nat))
    exact this
  · have h2 : OwnB 0 w5 (.slice B n c5) (f.vw.has.take n) := ⟨ho.1, ho.2.imp id fun ⟨g, cap, cur, a, b, r⟩ => ⟨g, cap, cur, a, Nat.zero_le _, r⟩⟩
    exact h2.of_eq fun k hk => (Below.heap_setCell _ _ _ _ (hne k hk)).trans (Below.heap_setCell _ _ _ _ (hne k hk))
  · show min f.vw.lasts n ≤ (f.vw.has.take n).length
    rw [List.length_take]; have := h.lasts; omega
  · exact ((Kp.of_below hb).trans (Kp.setCell (own := f.own) _ _ _ (.inl rfl)) fun i hi => .inl hi).trans (Kp.setCell (own := f.own) _ _ _ (.inl rfl)) fun i hi => .inl hi
  · rcases hi with rfl | hi
    · exact .inl (.inl rfl)
    · exact .inr (ho.lt i hi).1
set_option maxHeartbeats 1000000 in
theorem fcut_any {w : World} {f : Fl} (h : FlAt w f) (n : Nat) (hn : n ≤ f.vw.has.length) (hs : f.vw.has.length ≤ 3000000) (z : Int) (hz : z = n) : Calls Try.prog 34 #[.pointer (some ⟨f.blk, 0, none⟩), .int .i64 z] w (FOut f (cutV n f.vw) w) := by
  subst hz
  obtain ⟨A, c, hrow, hc, c0, c1, cf, hB⟩ := h.shape
  have f0 := cf 0
  have f1 := cf 1
  have hsl := fun W => run_h A f.vw.has.length c n (by omega) W
  have hpc := cutAt_bytes hB (l := 0) (Nat.zero_le _) hn hc
  rw [List.drop_zero] at hpc
  have HCL := Lib.hid (clone_own (cutAt A 0 c) c n (f.vw.has.take n) w hpc (Nat.le_refl _) (by rw [List.length_take]; omega) (by rw [List.length_take]; omega))
  have H := Lib.hid h
  have HN := Lib.hid hn
  have hla := h.lasts
  have hmin : min (f.vw.lasts : Int) (n : Int) = ((min f.vw.lasts n : Nat) : Int) := by omega
  have HM := Lib.hid hmin
  clear h hrow cf hB hpc hc hs hmin
  go_enter Try.func34, Try.ntmps34
  go_wp2_with (go_at_call 35; refine HCL.out.mono ?_; rintro e w5 ⟨B, c5, rfl, ho5, hb5⟩; rw [show (f.vw.has.take n).length = n by rw [List.length_take]; have := HN.out; omega] at ho5; have H5 := Lib.hid (And.intro ho5 hb5); have x0 := ((H.out.box.below hb5 H.out.box.lt).cell 0).trans rfl; have x1 := ((H.out.box.below hb5 H.out.box.lt).cell 1).trans rfl; have y0 := (H.out.box.below hb5 H.out.box.lt).frozen 0; have y1 := (H.out.box.below hb5 H.out.box.lt).frozen 1; clear ho5 hb5)
  go_end0
  rw [HM.out]
  exact cut_is H.out HN.out H5.out.1 H5.out.2
theorem FOut.later {f f1 : Fl} {v : Vw} {w W w' : World} {e : Ending} (hk : Kp f.own w W) (hb : f1.blk = f.blk) (ho : ∀ i, f1.own i → f.own i ∨ w.heap.size ≤ i) (h : FOut f1 v W e w') : FOut f v w e w' := by
  obtain ⟨he, row', h1, h2, h3⟩ := h
  refine ⟨he, row', hb ▸ h1, hk.trans h2 ho, fun i hi => ?_⟩
  rcases h3 i (by rw [hb]; exact hi) with h4 | h4
  · exact ho i h4
  · exact .inr (Nat.le_trans hk.size h4)
theorem lastsV_is {k : Int} {f : Vw} (h : f.lasts ≤ f.has.length) : (lastsV k f : Int) = f.lasts + min (max k 0) ((f.has.length : Int) - f.lasts) ∧ lastsV k f ≤ f.has.length ∧ f.lasts ≤ lastsV k f := by
  unfold lastsV; omega
theorem crashV_is {k : Int} {f : Vw} (h : f.lasts ≤ f.has.length) : syncV (cutV (lastsV k f) f) = crashV k f := by
  have := (lastsV_is (k := k) h).2.1
  unfold syncV cutV crashV
  simp [List.length_take, Nat.min_eq_left this]
set_option maxHeartbeats 1000000 in
theorem fcrash_any {w : World} {f : Fl} (h : FlAt w f) (k : Int) (hk : -9223372036854775808 ≤ k ∧ k ≤ 9223372036854775807) (hs : f.vw.has.length ≤ 3000000) : Calls Try.prog 36 #[.pointer (some ⟨f.blk, 0, none⟩), .int .i64 k] w (FOut f (crashV k f.vw) w) := by
  obtain ⟨A, c, hrow, hc, c0, c1, cf, hB⟩ := h.shape
  have hla := h.lasts
  obtain ⟨l1, l2, l3⟩ := lastsV_is (k := k) h.lasts
  have HL := Lib.hid (And.intro l1 (And.intro l2 l3))
  have H := Lib.hid h
  have HS := Lib.hid hs
  have b1 : -9223372036854775808 ≤ (f.vw.has.length : Int) - f.vw.lasts ∧ (f.vw.has.length : Int) - f.vw.lasts ≤ 9223372036854775807 := by omega
  have b2 : IntKind.i64.wrap ((f.vw.has.length : Int) - f.vw.lasts) = (f.vw.has.length : Int) - f.vw.lasts := by rw [IntKind.wrap_i64]; omega
  have b3 : IntKind.i64.wrap ((f.vw.lasts : Int) + min (max k 0) ((f.vw.has.length : Int) - f.vw.lasts)) = lastsV k f.vw := by rw [IntKind.wrap_i64, l1]; omega
  clear h hrow cf hB hc hs l1 l2 l3
  go_enter Try.func36, Try.ntmps36
  go_wp2_with fail
  go_quiet (fail)
  have HW := Lib.hid (show FlAt (w.drewN nq) f from H.out.keep fun _ _ => rfl)
  have HK := Lib.hid (Kp.drewN f.own w nq)
  generalize w.drewN nq = W2 at HW HK ⊢
  obtain ⟨_, _, _, _, c0, c1, cf, _⟩ := HW.out.shape
  have HCU := Lib.hid (fcut_any HW.out (lastsV k f.vw) HL.out.2.1 HS.out)
  clear cf c0
  go_wp2_with (first
    | (go_at_call 34; ((refine (HCU.out _ rfl).mono ?_); rintro e w5 ⟨rfl, row', h5, hk5, ho5⟩; have HSY := Lib.hid (show Calls Try.prog 32 #[.pointer (some ⟨f.blk, 0, none⟩)] w5 (FOut ⟨cutV (lastsV k f.vw) f.vw, f.blk, row'⟩ (syncV (cutV (lastsV k f.vw) f.vw)) w5) from fsync_any h5); have K5 := Lib.hid (And.intro (HK.out.trans hk5 fun i hi => .inl hi) (fun i hi => (ho5 i hi).imp id fun hh => Nat.le_trans HK.out.size hh)); clear h5 hk5 ho5))
    | (go_at_call 32; (refine HSY.out.mono ?_; intro e w6 h6; have h7 : FOut f (syncV (cutV (lastsV k f.vw) f.vw)) w e w6 := FOut.later (f1 := ⟨cutV (lastsV k f.vw) f.vw, f.blk, row'⟩) K5.out.1 rfl K5.out.2 h6; obtain ⟨rfl, h8⟩ := h7; have H6 := Lib.hid h8; clear h6 h8)))
  go_end0
  have h9 := H6.out
  rw [crashV_is H.out.lasts] at h9
  exact ⟨rfl, h9⟩
end Go.Proofs.Ytkieacidpiffpaa
