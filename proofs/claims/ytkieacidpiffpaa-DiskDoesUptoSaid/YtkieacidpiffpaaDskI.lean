/- Sync, Cut; Full, Halt; Read; New. -/
import Derived.Test.YtkieacidpiffpaaDskH
namespace Go.Proofs.Ytkieacidpiffpaa
open Go Go.RowKit Go.Shelf
set_option linter.unusedVariables false
set_option linter.unusedSimpArgs false

theorem res_upd {W w' : World} {d : Dk} {s : ByteArray} {f : Fl} {v : Vw} {e : Ending} {g : Vw → Vw} (h : DkAt W d) (hl : lookF d.fs s = some f) (ho : FOut f v W e w') (hv : v = g f.vw) (hn : v.name = f.vw.name) (hlen : v.has.length ≤ f.vw.has.length) :
    Res d W ({ d.md with fs := updV d.md.fs s g }, 0) (.returned (.int .u16 0)) w' := by
  obtain ⟨he, row', h1, h2, h3⟩ := ho
  obtain ⟨hm, hs⟩ := lookF_some hl
  have hs' : (⟨v, f.blk, row'⟩ : Fl).vw.name = s := hn.trans hs
  have hsz := sizes_upd (f' := ⟨v, f.blk, row'⟩) h.names hl
  have hat := h.upd (f := f) (f' := ⟨v, f.blk, row'⟩) (by rw [hs']; exact hl) rfl h1 h2.block h3 (by rw [hs']; have := h.used; simp only at hsz; omega)
  rw [hs'] at hat
  refine ⟨rfl, _, hat, ?_, rfl, h2.mono fun i hi => .inr (.inr ⟨f, hm, hi⟩), fun i hi => ?_⟩
  · show Md.mk _ _ _ _ = Md.mk _ _ _ _
    rw [vws_upd h.names hl (f' := ⟨v, f.blk, row'⟩) hv]; rfl
  · rcases hi with rfl | rfl | ⟨g, hg2, hi⟩
    · exact .inl (.inl rfl)
    · exact .inl (.inr (.inl rfl))
    · obtain ⟨x, hx, rfl⟩ := List.mem_map.1 hg2
      split at hi
      · rcases h3 i hi with h4 | h4
        · exact .inl (.inr (.inr ⟨f, hm, h4⟩))
        · exact .inr h4
      · exact .inl (.inr (.inr ⟨x, hx, hi⟩))
theorem chg_is {d : Dk} {s : ByteArray} {f : Fl} (hl : lookF d.fs s = some f) (g : Vw → Vw) (no : Vw → Bool) (c : Int) : d.md.chg s g no c = if no f.vw = true then (d.md, c) else ({ d.md with fs := updV d.md.fs s g }, 0) := by
  unfold Md.chg; rw [(found_some hl (fun m => (m, 0))).2]
theorem chg_found (m : Md) (s : ByteArray) (g : Vw → Vw) (no : Vw → Bool) (c : Int) : m.found s (fun m => m.chg s g no c) = m.chg s g no c := by
  unfold Md.found Md.chg
  cases hh : m.look s with
  | none => rfl
  | some f => simp only [hh]
theorem syncc_any {W : World} {d : Dk} (h : DkAt W d) {s : ByteArray} {f : Fl} (hl : lookF d.fs s = some f) : Calls Try.prog 31 (#[.pointer (some ⟨f.blk, 0, none⟩)] ++ #[]) W (Res d W (d.md.chg s syncV (fun _ => false) 0)) := by
  have HS := Lib.hid (fsync_any (h.files f (lookF_some hl).1))
  have HR := Lib.hid (fun e w' (ho : FOut f (syncV f.vw) W e w') => res_upd (g := syncV) h hl ho rfl rfl (Nat.le_refl _))
  have HC := Lib.hid (chg_is hl syncV (fun _ => false) 0)
  clear h hl
  show Calls Try.prog 31 #[.pointer (some ⟨f.blk, 0, none⟩)] W _
  go_enter Try.func31, Try.ntmps31
  go_wp2_with (go_at_call 32; refine HS.out.mono ?_; intro e w1 hq; have hq2 := HR.out e w1 hq; obtain ⟨rfl, hq4⟩ := hq; have HX := Lib.hid hq2; clear hq4 hq2)
  go_ret
  rw [HC.out]
  exact HX.out
set_option maxHeartbeats 1000000 in
theorem cutc_any {W : World} {d : Dk} (h : DkAt W d) {s : ByteArray} {f : Fl} (hl : lookF d.fs s = some f) (p : Nat) (n : Int) (hn : -9223372036854775808 ≤ n ∧ n ≤ 9223372036854775807) (q : W.cell? ⟨p, 0, none⟩ = some (.int .i64 n)) (hp : ¬ d.own p) :
    Calls Try.prog 33 (#[.pointer (some ⟨f.blk, 0, none⟩)] ++ #[.pointer (some ⟨p, 0, none⟩)]) W (Res d W (d.md.chg s (cutV n.toNat) (fun f => decide (n < 0 ∨ (f.has.length : Int) < n)) 1)) := by
  obtain ⟨hm, _⟩ := lookF_some hl
  have hf := h.files f hm
  obtain ⟨A, c, hrow, hc, c0, c1, cf, hB⟩ := hf.shape
  have hle : f.vw.has.length ≤ sizes (vws d.fs) := sizes_mem (f := f.vw) (List.mem_map.2 ⟨f, hm, rfl⟩)
  have hu := h.used
  have hr := h.room
  have HC := Lib.hid (chg_is hl (cutV n.toNat) (fun f => decide (n < 0 ∨ (f.has.length : Int) < n)) 1)
  have H := Lib.hid h
  have HL := Lib.hid hl
  show Calls Try.prog 33 #[.pointer (some ⟨f.blk, 0, none⟩), .pointer (some ⟨p, 0, none⟩)] W _
  by_cases hneg : n < 0
  · have hd : decide (n < 0) = true := decide_eq_true hneg
    have HR := Lib.hid (show d.md.chg s (cutV n.toNat) (fun f => decide (n < 0 ∨ (f.has.length : Int) < n)) 1 = (d.md, 1) by rw [HC.out, if_pos (decide_eq_true (.inl hneg))])
    clear h hl hm hf hrow hc cf hB hle hu hr HC
    go_enter Try.func33, Try.ntmps33
    go_wp2_with fail
    go_quiet (fail)
    go_wp2
    go_ret
    exact Res.same H.out (below_drewN (Below.refl _ _) _) HR.out
  · have hd : decide (n < 0) = false := decide_eq_false hneg
    by_cases hbig : (f.vw.has.length : Int) < n
    · have hd2 : decide ((f.vw.has.length : Int) < n) = true := decide_eq_true hbig
      have HR := Lib.hid (show d.md.chg s (cutV n.toNat) (fun f => decide (n < 0 ∨ (f.has.length : Int) < n)) 1 = (d.md, 1) by rw [HC.out, if_pos (decide_eq_true (.inr hbig))])
      clear h hl hm hf hrow hc cf hB hle hu hr HC
      go_enter Try.func33, Try.ntmps33
      go_wp2_with fail
      go_quiet (fail)
      go_wp2
      go_ret
      exact Res.same H.out (below_drewN (Below.refl _ _) _) HR.out
    · have hd2 : decide ((f.vw.has.length : Int) < n) = false := decide_eq_false hbig
      have HR := Lib.hid (show d.md.chg s (cutV n.toNat) (fun f => decide (n < 0 ∨ (f.has.length : Int) < n)) 1 = ({ d.md with fs := updV d.md.fs s (cutV n.toNat) }, 0) by rw [HC.out, if_neg (by simp; omega)])
      have HCU := Lib.hid (fun W2 (hf2 : FlAt W2 f) => fcut_any hf2 n.toNat (by omega) (by omega) n (by omega))
      have HF := Lib.hid hf
      have HRS := Lib.hid (fun (W2 : World) (h2 : DkAt W2 d) e w' (ho : FOut f (cutV n.toNat f.vw) W2 e w') => res_upd (g := cutV n.toNat) h2 hl ho rfl rfl (by show (f.vw.has.take n.toNat).length ≤ _; rw [List.length_take]; omega))
      clear h hl hm hf hrow hc cf hB hle hu hr HC
      go_enter Try.func33, Try.ntmps33
      go_wp2_with fail
      go_quiet (fail)
      have HW := Lib.hid (show DkAt (W.drewN nq) d ∧ FlAt (W.drewN nq) f ∧ Kp d.own W (W.drewN nq) ∧ (W.drewN nq).cell? ⟨p, 0, none⟩ = some (.int .i64 n) from ⟨H.out.keep fun _ _ => rfl, HF.out.keep fun _ _ => rfl, Kp.drewN _ _ _, q⟩)
      generalize W.drewN nq = W2 at HW ⊢
      have q2 := HW.out.2.2.2
      clear c0 c1 q
      go_wp2_with (go_at_call 34; refine (HCU.out W2 HW.out.2.1).mono ?_; intro e w1 hq; have hq2 : Res d W _ _ w1 := Res.later (d := d) HW.out.2.2.1 rfl (fun i hi => .inl hi) (HRS.out W2 HW.out.1 e w1 hq); obtain ⟨rfl, hq4⟩ := hq; have HX := Lib.hid hq2; clear hq4 hq2)
      go_ret
      rw [HR.out]
      exact HX.out
theorem sync_any {w : World} {d : Dk} (h : DkAt w d) (s : ByteArray) (hs : s.size ≤ maxLen) : Calls Try.prog 12 #[.pointer (some ⟨d.B, 0, none⟩), .string s] w (Res d w (d.md.sync s)) := by
  have HC := Lib.hid (change_any h 31 #[] (enters_of Try.func31 (by kernel_rfl) rfl) s hs (fun m => m.chg s syncV (fun _ => false) 0) fun l f W hf hW hk => syncc_any hW hf)
  simp only [chg_found] at HC
  clear h hs
  go_enter Try.func12, Try.ntmps12
  go_wp2_with (go_at_call 30; refine HC.out.mono ?_; rintro e w1 ⟨rfl, hq⟩; have HX := Lib.hid hq; clear hq)
  go_ret
  exact ⟨rfl, HX.out⟩
set_option maxHeartbeats 1000000 in
theorem cut_any {w : World} {d : Dk} (h : DkAt w d) (s : ByteArray) (hs : s.size ≤ maxLen) (n : Int) (hn : -9223372036854775808 ≤ n ∧ n ≤ 9223372036854775807) : Calls Try.prog 13 #[.pointer (some ⟨d.B, 0, none⟩), .string s, .int .i64 n] w (Res d w (d.md.cut s n)) := by
  have hmf := mk_func
  have H1 := h.alloc (.cells #[.int .i64 n] 3)
  have q := box_cell w 3 (.int .i64 n)
  have o0 : ¬ d.own w.heap.size := h.not_own (Nat.le_refl _)
  have HK := Lib.hid (Kp.alloc d.own w (.cells #[.int .i64 n] 3))
  have hc0 := (change_any H1 33 #[.pointer (some ⟨w.heap.size, 0, none⟩)] (enters_of Try.func33 (by kernel_rfl) rfl) s hs (fun m => m.chg s (cutV n.toNat) (fun f => decide (n < 0 ∨ (f.has.length : Int) < n)) 1) fun l f W hf hW hk => cutc_any hW hf w.heap.size n hn (hk.cell q o0) o0)
  simp only [chg_found] at hc0
  have HC := Lib.hid (show Calls Try.prog 30 _ _ (Res d _ (d.md.cut s n)) from hc0)
  clear h hs H1 q o0 hn hc0
  go_enter Try.func13, Try.ntmps13
  go_wp2_with (go_at_call 30; refine HC.out.mono ?_; intro e w1 hq; have hq2 : Res d w _ e w1 := Res.later (d := d) HK.out rfl (fun i hi => .inl hi) hq; obtain ⟨rfl, hq3⟩ := hq2; have HX := Lib.hid hq3; clear hq hq3)
  go_ret
  exact ⟨rfl, HX.out⟩
end Go.Proofs.Ytkieacidpiffpaa
