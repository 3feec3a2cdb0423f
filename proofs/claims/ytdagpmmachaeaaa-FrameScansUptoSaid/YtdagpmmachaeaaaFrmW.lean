/- Frames: the program's Scan. -/
import Derived.Test.YtdagpmmachaeaaaFrmV
import Derived.Test.YtdagpmmachaeaaaLawFK
import Derived.BigQuiet
import Derived.Deep.QuietTactic
import Derived.OwnWalkIn
namespace Go.Proofs.Ytdagpmmachaeaaa
open Go Go.RowKit Go.Shelf
attribute [local go_sem] Oper.semAt_some
set_option linter.unusedVariables false
set_option linter.unusedSimpArgs false

theorem call_frames (A : Option Addr) (n ca : Nat) (w : World) : Calls Try.prog 32 #[.slice A n ca] w fun e w' => e = .returned (.func (.func 33) #[] #[.pointer (some ⟨w.heap.size, 0, none⟩)]) ∧ w.alloc (.cells #[.slice A n ca] 22) = w' := by
  go_enter Try.func32, Try.ntmps32
  go_wp2
  go_ret
  exact ⟨rfl, rfl⟩
theorem Held.far {base : Nat} {W : World} {v : Value} {ls : List (List Int)} (h : Held base W v ls) {p : Addr} (hp : p.block < base) (u : Value) : Held base (W.setCell p u) v ls := by
  obtain ⟨xs, ho, he⟩ := h
  exact ⟨xs, ownsRow_setCell_below ho hp u, fun i bs hi => by
    obtain ⟨B, d, e, hn⟩ := he i bs hi
    exact ⟨B, d, e, hn.far hp u⟩⟩
theorem Held.lower {base base' : Nat} {W : World} {v : Value} {ls : List (List Int)} (h : Held base W v ls) (hb : base' ≤ base) : Held base' W v ls := by
  obtain ⟨xs, ho, he⟩ := h
  exact ⟨xs, ⟨ho.1, ho.2.imp id fun ⟨g, cap, cur, e, hg, r⟩ => ⟨g, cap, cur, e, Nat.le_trans hb hg, r⟩⟩, fun i bs hi => by
    obtain ⟨B, d, e, hn⟩ := he i bs hi
    exact ⟨B, d, e, hn.lower hb⟩⟩
set_option maxRecDepth 100000 in
set_option maxHeartbeats 4000000 in
theorem scan_any (A : Option Addr) (ca n0 : Nat) (bs : List Int) (w : World) (hA : Bytes w.heap.size w A bs) (hs : Short bs) (hca : bs.length ≤ ca) (hl : bs.length ≤ 100000) (hn0 : n0 = bs.length) :
    Calls Try.prog 21 #[.slice A n0 ca] w (ScanOut bs w) := by
  subst hn0
  obtain ⟨i0, hi, hz0, hz1, hz2⟩ := info_parts infoSl
  have HI := Lib.hid (And.intro hi (And.intro hz0 (And.intro hz1 hz2)))
  clear hi hz0 hz1 hz2
  have HA := Lib.hid hA
  have HS := Lib.hid hs
  clear hA hs
  refine (callsIn_wide (n := 9)).1 ?_
  refine callsIn_of_wp_marks Try.func21 rfl trivial ?_ rfl
  simp only [Try.ntmps21, List.size_toArray, List.length_cons, List.length_nil, Nat.reduceAdd, Nat.reduceSub, Array.replicate_succ, Array.replicate_zero, List.push_toArray, List.append_toArray, List.nil_append, List.cons_append]
  gi_wp2_with (refine ⟨trivial, ?_⟩; gi_at_call 32; refine (callsIn_wide.2 (call_frames _ _ _ _)).mono ?_; rintro e w' ⟨rfl, rfl⟩)
  have hsi : SI w A bs.length ca [] 0 (((w.alloc (.cells #[.slice none 0 0] 42)).alloc (.cells #[.int .i64 0] 3)).alloc (.cells #[.slice A bs.length ca] 22)) := by
    refine ⟨(((Below.refl _ _).alloc (Nat.le_refl _) _).alloc (by simp) _).alloc (by simp; omega) _, ⟨.slice none 0 0, ((Whole.new w _ _).alloc _).alloc _, Held.nil _ _⟩, ?_, ?_⟩
    · have := Whole.new (w.alloc (.cells #[.slice none 0 0] 42)) 3 #[.int .i64 0]
      rw [World.size_alloc] at this
      exact this.alloc _
    · have := Whole.new ((w.alloc (.cells #[.slice none 0 0] 42)).alloc (.cells #[.int .i64 0] 3)) 22 #[.slice A bs.length ca]
      rw [World.size_alloc, World.size_alloc] at this
      exact this
  have hz0 : (((w.alloc (.cells #[.slice none 0 0] 42)).alloc (.cells #[.int .i64 0] 3)).alloc (.cells #[.slice A bs.length ca] 22)).heap.size = w.heap.size + 3 := by simp
  obtain ⟨w0, hw0e⟩ : ∃ w0, w0 = (((w.alloc (.cells #[.slice none 0 0] 42)).alloc (.cells #[.int .i64 0] 3)).alloc (.cells #[.slice A bs.length ca] 22)) := ⟨_, rfl⟩
  rw [← hw0e] at hsi hz0 ⊢
  clear hw0e
  have HSI := Lib.hid hsi
  have hz3 := Nat.le_of_eq hz0
  have hz3' := Nat.le_of_eq hz0.symm
  clear hsi hz0
  refine range_law rfl (by decide) (gf := 33) (lb := #[.pointer (some ⟨w.heap.size + 1 + 1, 0, none⟩)]) rfl trivial (enters_of Try.func33 (by kernel_rfl) rfl) (It.encs bs) (fun _ => rfl)
    (It.Pre w A ca bs) (It.Post w A ca bs) (fun _ _ => False) (SI w A bs.length ca (scanL bs.length bs) (scanE bs.length bs))
    (fun x W l o o' hB hl ho ho' h => ⟨SI.apart (by omega) W l o o' hB hl ho ho' h.1, h.2.1, h.2.2.1, h.2.2.2.apart hl ho o'⟩) (fun x => SI.apart (by omega)) (fun _ _ _ _ _ _ _ _ _ h => h) (SI.apart (by omega)) ?seq
    (fun x => { tmps := #[.slice A bs.length ca, undef, .slice none 0 0, .int .i64 0, .pointer (some ⟨w.heap.size, 0, none⟩), .pointer (some ⟨w.heap.size + 1, 0, none⟩), .slice x.B (numN (bs.drop x.e)) x.d, .int .i64 (x.e + (8 + numN (bs.drop x.e)) : Nat), .slice A bs.length ca, .func (.func 33) #[] #[.pointer (some ⟨w.heap.size + 1 + 1, 0, none⟩)], .slice x.B (numN (bs.drop x.e)) x.d, .int .i64 (x.e + (8 + numN (bs.drop x.e)) : Nat), undef, undef, undef, undef, undef, undef, undef], defers := [] }) ?assign ?body ?done ?stop
  case seq =>
    rintro l W rfl ⟨o, o', ho, ho', rfl⟩
    exact frames_dues 8 (by decide) w0.heap.size w A ca bs _ _ HA.out HS.out hca hl ((HSI.out.keep (((Below.refl _ _).alloc (Nat.le_refl _) o).alloc (by simp) o')))
  case assign =>
    intro l x W K hK
    gi_wp2
    exact hK
  case body =>
    rintro l x W ⟨⟨hb, ⟨v, hv, hh⟩, hlast, hbox⟩, hat, hok, hn⟩
    obtain ⟨xs, hx⟩ := hh
    obtain ⟨C, c, rfl⟩ := (show Held (w.heap.size + 3) W v x.ls from ⟨xs, hx⟩).form
    have hW := hb.size
    have hlen := at_len hat hl
    have HLEN := Lib.hid (heldF_len hok)
    generalize hnn : numN (bs.drop x.e) = n at HLEN ⊢
    have HNN := Lib.hid hnn
    clear hnn
    have hal := ((Below.refl W.heap.size W).alloc (Nat.le_refl _) (.cells #[.slice x.B n x.d] 22))
    have hc1 := hv.cell 0
    have hv1 := hv.alloc (.cells #[.slice x.B n x.d] 22)
    have hx1 := hx.keep hal
    have hrow : ∀ k, (Value.slice C x.ls.length c).ownBlock = some k → w.heap.size + 3 ≤ k := fun k hk => (hx.own.lt k hk).1
    have HX1 := Lib.hid hx1
    have HN1 := Lib.hid (hn.keep hal (Nat.le_refl _))
    have HV1 := Lib.hid hv1
    have HL1 := Lib.hid (hlast.alloc (.cells #[.slice x.B n x.d] 22))
    have HBX1 := Lib.hid (hbox.alloc (.cells #[.slice x.B n x.d] 22))
    have HB1 := Lib.hid (hb.alloc hW (.cells #[.slice x.B n x.d] 22))
    have HROW := Lib.hid hrow
    have hz3b : w.heap.size + 3 ≤ W.heap.size := hbox.lt
    clear hb hv hlast hbox hat hok hn hx hal hv1 hx1 hrow
    gi_wp2_with (gi_at_builtin; refine wpListIn_append_own _ rfl (.tmp 12) (.tmp 14) 42 rfl (w.heap.size + 3) 22 i0 _ 1 24 Try.underlying42 HI.out.1 HI.out.2.1 HI.out.2.2.1 HI.out.2.2.2 rfl (by decide) (.slice C x.ls.length c) x.ls.length xs rfl HX1.out.own ⟨W.heap.size, 0, none⟩ 1 1 [.slice x.B n x.d] rfl rfl (src_one W _ _ rfl) (one_cell x.B n x.d) (by unfold maxLen; omega) (by omega) (by simp; omega) ?_; intro v' w2 hown hgrow hiff; have HV2 := Lib.hid (HV1.out.grown hgrow (fun e => by have := HROW.out _ e.symm; omega)); have HL2 := Lib.hid (HL1.out.grown hgrow (fun e => by have := HROW.out _ e.symm; omega)); have HBX2 := Lib.hid (HBX1.out.grown hgrow (fun e => by have := HROW.out _ e.symm; omega)); have HH2 := Lib.hid (HeldR.snoc HX1.out HN1.out HLEN.out.symm hown hgrow); have HG := Lib.hid hgrow; obtain ⟨C', c', rfl⟩ := HH2.out.form; have hc2 := HV2.out.cell 0; have hf2 := HV2.out.frozen 0; have hc3 := HL2.out.cell 0; have hf3 := HL2.out.frozen 0; clear hown hgrow hiff)
    refine ⟨(((KeepsOthers.alloc W _).trans (KeepsOthers.of_grownBy HG.out fun j o hj ho => ?_)).trans ((KeepsOthers.setCell _ _ _).trans (KeepsOthers.setCell _ _ _))).from _, ?_⟩
    · rcases HX1.out.own.2 with ⟨e, _⟩ | ⟨g, cap, cur, e, _, hw, _⟩
      · rw [e] at hj; cases hj
      · rw [e] at hj
        simp only [Value.ownBlock, Option.some.injEq] at hj
        subst hj
        rw [hw] at ho; cases ho; rfl
    · show SI w A bs.length ca (x.ls ++ [heldF (bs.drop x.e)]) (x.e + (8 + numN (bs.drop x.e))) _
      rw [HNN.out]
      refine ⟨((HB1.out.grown HG.out (by simp; omega) (fun k hk => by have := HROW.out k hk; omega)).setCell (Nat.le_refl _) _).setCell (by show w.heap.size ≤ w.heap.size + 1; omega) _, ⟨.slice C' (x.ls.length + 1) c', ?_, ?_⟩, ?_, ?_⟩
      · exact (HV2.out.put 0 _).far (by show w.heap.size ≠ w.heap.size + 1; omega) _
      · have := HH2.out
        rw [List.length_append] at this
        exact (this.far (by show w.heap.size < _; omega) _).far (by show w.heap.size + 1 < _; omega) _
      · have := (HL2.out.far (p := ⟨w.heap.size, 0, none⟩) (by show w.heap.size + 1 ≠ w.heap.size; omega) (.slice C' (x.ls.length + 1) c')).put 0 (.int .i64 (x.e + (8 + n) : Nat))
        exact this
      · exact (HBX2.out.far (by show w.heap.size + 2 ≠ w.heap.size; omega) _).far (by show w.heap.size + 2 ≠ w.heap.size + 1; omega) _
  case done =>
    rintro D W hD ⟨hb, ⟨v, hv, hh⟩, hlast, hbox⟩ hK
    obtain ⟨C, c, rfl⟩ := hh.form
    have hc1 := hv.cell 0
    have hc2 := hlast.cell 0
    have HH := Lib.hid hh
    have HB := Lib.hid hb
    clear hb hv hh hlast hbox
    gi_wp2
    refine wpIn_wide.2 ?_
    go_quiet (fail)
    gi_wp2
    refine ⟨by simp, .inl ⟨_, _, rfl, run_takeDeferred hK, ?_⟩⟩
    refine ⟨_, results_tmp2 (fn := Try.f21) rfl _ _ _, ?_⟩
    exact ⟨.slice C (scanL bs.length bs).length c, rfl, ((HH.out.keep (below_draws (Below.refl _ _) nq)).apart hK rfl _).lower (Nat.le_add_right _ _), below_apart (W := W.drewN nq) (below_draws HB.out nq) (by omega) hK _⟩
  case stop =>
    rintro D c W _ h _
    exact h.elim
end Go.Proofs.Ytdagpmmachaeaaa
