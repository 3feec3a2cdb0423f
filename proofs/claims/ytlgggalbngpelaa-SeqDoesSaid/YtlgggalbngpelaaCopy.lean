/- Copy, the program's. -/
import Derived.Test.YtlgggalbngpelaaCopyRound
import Derived.Sort.CutIn
import Derived.Test.YtlgggalbngpelaaBaseA
namespace Go.Proofs.Ytlgggalbngpelaa
open Go Go.RowKit Go.Shelf Go.Sort
attribute [local go_sem] Oper.semAt_some

/-- Between the rounds of the loop over the keys. -/
def CKeyRel (Wd : World) (n : Nat) (i : Value) (wr : World) : Prop := ∃ k : Nat, i = .int .i64 k ∧ k ≤ n ∧ Below Wd.heap.size Wd wr

set_option maxRecDepth 100000 in
set_option maxHeartbeats 8000000 in
theorem val_Copy (ok : Nat → Prop) (v : Value) (g : GV) (w : World) (hv : g.val ok w v) (hg : g.weight ≤ 1000000000) :
    Calls Try.prog 28 #[v] w fun e w' => ∃ v', e = .returned v' ∧ g.val (fun k => w.heap.size ≤ k) w' v' ∧ Below w.heap.size w w' := by
  obtain ⟨L, O, rfl, hL, hO⟩ := hv
  obtain ⟨AL, cL, rfl⟩ := lst_form hL
  obtain ⟨AO, cO, rfl⟩ := obj_form hO
  refine (callsIn_wide (n := 9)).1 ?_
  refine callsIn_of_wp_marks Try.func28 rfl trivial ?_ rfl
  simp only [Try.ntmps28, List.size_toArray, List.length_cons, List.length_nil, Nat.reduceAdd, Nat.reduceSub, Array.replicate_succ, Array.replicate_zero, List.push_toArray, List.append_toArray, List.nil_append, List.cons_append]
  gi_wp2_with (refine ⟨trivial, ?_⟩; gi_at_call 40; refine (callsIn_wide.2 (call_all _ _)).mono ?_; rintro e w' ⟨rfl, rfl⟩)
  have hLo : LstV (fun k => k < w.heap.size) w (.slice AL g.items.length cL) g.items := hL.keep (From.refl _ _) (fun k _ hk => hk)
  have hOo : ObjV (fun k => k < w.heap.size) w (.slice AO g.vals.length cO) g.keys g.vals := hO.keep (From.refl _ _) (fun k _ hk => hk)
  clear hL hO
  refine range_law rfl (by decide) (gf := 46) (lb := #[.pointer (some ⟨w.heap.size + 1 + 1, 0, none⟩)]) rfl trivial (enters_of Try.func46 (by kernel_rfl) rfl) Due.encs (fun _ => rfl)
    (Due.Pre (CopyJ w.heap.size w g)) (Due.Post (CopyJ w.heap.size w g)) (fun _ _ => False) (CopyJ w.heap.size w g [])
    (pre_apart fun S => CopyJ.apart (by simp; omega) S) (post_apart fun S => CopyJ.apart (by simp; omega) S) (fun _ _ _ _ _ _ _ _ _ h => h) (CopyJ.apart (by simp; omega) _) ?seq
    (fun x => { tmps := #[.agg #[.int .u8 g.kind, .int .i64 g.num, .string g.str, .slice AL g.items.length cL, .slice AO g.vals.length cO], .pointer (some ⟨w.heap.size, 0, none⟩), .pointer (some ⟨w.heap.size + 1, 0, none⟩), undef, .pointer (some ⟨x.1.b, x.1.off, none⟩), undef, .func (.func 46) #[] #[.pointer (some ⟨w.heap.size + 1 + 1, 0, none⟩)], .int .i64 x.1.d, .pointer (some ⟨x.1.b, x.1.off, none⟩), undef, undef, undef, undef, undef, undef, undef, undef, undef, undef, undef, undef, undef, undef, undef, undef, undef, undef, undef, undef, undef, undef, undef, undef, undef, undef, undef, undef, undef, undef, undef, undef, undef, undef, undef, undef, undef, undef, undef, undef, undef, undef, undef, undef, undef, undef, undef, undef, undef, undef], defers := [] }) ?assign ?body ?done ?stop
  case seq =>
    rintro l W rfl ⟨o, o', ho, ho', rfl⟩
    refine all1_dues 8 (by decide) _ 1000000000 (Nat.le_refl _) _ _ (fun S X Y q k => q.but k (by simp; omega)) (w.heap.size + 1 + 1) ⟨0, w.heap.size, 0, g⟩ _ ?_ (by have := size_le_weight g; simp; omega) ?_ rfl
    · have hw1 := (((((Whole.new w 27 #[.int .u8 g.kind, .int .i64 g.num, .string g.str, .slice AL g.items.length cL, .slice AO g.vals.length cO]).alloc (.cells Zero5 27)).alloc (.cells #[.pointer (some ⟨w.heap.size, 0, none⟩)] 75)).alloc o).alloc o')
      have hr0 := Whole.new (w.alloc (.cells #[.int .u8 g.kind, .int .i64 g.num, .string g.str, .slice AL g.items.length cL, .slice AO g.vals.length cO] 27)) 27 Zero5
      rw [World.size_alloc] at hr0
      have hr1 := ((hr0.alloc (.cells #[.pointer (some ⟨w.heap.size, 0, none⟩)] 75)).alloc o).alloc o'
      refine ⟨(((((Below.refl _ _).alloc (Nat.le_refl _) _).alloc (by simp) _).alloc (by simp; omega) _).alloc (by simp; omega) _).alloc (by simp; omega) _, fun x hx => ?_, by simp, fun W2 _ hat => hat ⟨0, w.heap.size, 0, g⟩ (by simp), by simpa [wsum] using hg, hr1, by simp⟩
      simp only [List.mem_singleton] at hx
      subst hx
      exact ⟨by simp, ⟨_, _, .inl rfl, hw1⟩, _, _, (hw1.cell 0).trans rfl, (hw1.cell 1).trans rfl, (hw1.cell 2).trans rfl, (hw1.cell 3).trans rfl, (hw1.cell 4).trans rfl, hLo, hOo⟩
    · refine cell_alloc _ (cell_alloc _ ?_)
      have := Whole.new ((w.alloc (.cells #[.int .u8 g.kind, .int .i64 g.num, .string g.str, .slice AL g.items.length cL, .slice AO g.vals.length cO] 27)).alloc (.cells Zero5 27)) 75 #[.pointer (some ⟨w.heap.size, 0, none⟩)]
      rw [World.size_alloc, World.size_alloc] at this
      exact (this.cell 0).trans rfl
  case assign =>
    intro l x W K hK
    gi_wp2
    exact hK
  case body =>
    rintro l ⟨x, rest, own⟩ W ⟨hJ, hO⟩
    replace hJ : CopyJ w.heap.size w g (rest ++ [x]) W := hJ
    replace hO : Owned 84 own W := hO
    have hpx := hJ.pend x (by simp)
    obtain ⟨Lx, Ox, _, _, hx2, hx3, hx4, hLx, hOx⟩ := hpx.val
    obtain ⟨A0, c0, rfl⟩ := lst_form hLx
    obtain ⟨A0', c0', rfl⟩ := obj_form hOx
    obtain ⟨te, cs, hte, hcs⟩ := hpx.whole
    have hwx : x.g.weight ≤ 1000000000 := Nat.le_trans (weight_le (S := rest ++ [x]) (by simp)) hJ.small
    have hs1 : x.g.str.size ≤ 281474976710656 := by have := weight_eq x 0 0 0 0; omega
    have hs2 : ksum x.g.keys ≤ 1000000000 := by have := weight_eq x 0 0 0 0; omega
    have hn1 : x.g.items.length ≤ 1000000000 := by have h1 := len_sizes x.g.items; have h2 := size_eq x.g; have h3 := size_le_weight x.g; omega
    have hn2 : x.g.vals.length ≤ 1000000000 := by have h1 := len_sizes x.g.vals; have h2 := size_eq x.g; have h3 := size_le_weight x.g; omega
    have HJ := Lib.hid hJ
    have HCS := Lib.hid hcs
    have HBG := Lib.hid hpx.big
    have HLx := Lib.hid hLx
    have HOx := Lib.hid hOx
    have hWsz := hJ.size
    have HKL := Lib.hid hOx.1
    clear hJ hpx hcs hLx hOx
    dsimp only
    have fz : ∀ (W' : World) (j : Nat), Below W.heap.size W W' → W'.frozen? ⟨x.b, j, none⟩ = false := fun W' j hb => (HCS.out.below hb HCS.out.lt).frozen j
    have HFZ := Lib.hid fz
    clear fz
    gi_wp2_with (first | (refine ⟨trivial, ?_⟩; gi_at_call 37; refine (CallsIn.inRound l (callsIn_wide.2 (call_clone _ _ hs1))).mono ?_; rintro e Wa ⟨rfl, hba⟩; have ya2 : Wa.cell? ⟨x.b, x.off + 2, none⟩ = some (.string x.g.str) := (hba.cell (p := ⟨x.b, x.off + 2, none⟩) HCS.out.lt).trans hx2; have ya3 : Wa.cell? ⟨x.b, x.off + 3, none⟩ = some (.slice A0 x.g.items.length c0) := (hba.cell (p := ⟨x.b, x.off + 3, none⟩) HCS.out.lt).trans hx3; have ya4 : Wa.cell? ⟨x.b, x.off + 4, none⟩ = some (.slice A0' x.g.vals.length c0') := (hba.cell (p := ⟨x.b, x.off + 4, none⟩) HCS.out.lt).trans hx4; have HWa := Lib.hid (HCS.out.below hba HCS.out.lt); have yf2 := HWa.out.frozen (x.off + 2); have HbA := Lib.hid ((HJ.out.below.trans (hba.mono (by omega))).setCell (p := ⟨x.b, x.off + 2, none⟩) HBG.out.1 (.string x.g.str)); have HLa := Lib.hid (HLx.out.keep (fun k hk _ => HbA.out.block k hk) (fun _ h _ => h)); have HBa := Lib.hid hba) | (refine ⟨trivial, ?_⟩; gi_at_call 41; refine (CallsIn.inRound l (callsIn_wide.2 (fresh_val (fun k => k < w.heap.size) _ x.g.items _ HLa.out hn1))).mono ?_; rintro e Wb hfl; obtain ⟨A1, c1, rfl, hbb, hnl⟩ := freshL_form hfl; rw [size_set] at hbb hnl; have yb3 : Wb.cell? ⟨x.b, x.off + 3, none⟩ = some (.slice A0 x.g.items.length c0) := (hbb.cell (p := ⟨x.b, x.off + 3, none⟩) HWa.out.lt).trans (set_other ya3 (by omega)); have yb4 : Wb.cell? ⟨x.b, x.off + 4, none⟩ = some (.slice A0' x.g.vals.length c0') := (hbb.cell (p := ⟨x.b, x.off + 4, none⟩) HWa.out.lt).trans (set_other ya4 (by omega)); have HWb := Lib.hid ((HWa.out.put (x.off + 2) (.string x.g.str)).below hbb HWa.out.lt); have yf3 := HWb.out.frozen (x.off + 3); have HbB := Lib.hid ((HbA.out.trans (hbb.mono (by have := HBa.out.size; omega))).setCell (p := ⟨x.b, x.off + 3, none⟩) HBG.out.1 (.slice A1 x.g.items.length c1)); have HOb := Lib.hid (HOx.out.keep (fun k hk _ => HbB.out.block k hk) (fun _ h _ => h)); have HBb := Lib.hid hbb; have HNL := Lib.hid hnl; clear hfl hnl hbb) | (refine ⟨trivial, ?_⟩; gi_at_call 42; refine (CallsIn.inRound l (callsIn_wide.2 (fresh_obj (fun k => k < w.heap.size) _ x.g.keys x.g.vals _ HOb.out hn2))).mono ?_; rintro e Wc hfo; obtain ⟨A2, c2, rfl, hbc, hno⟩ := freshO_form hfo; rw [size_set] at hbc hno; have yc4 : Wc.cell? ⟨x.b, x.off + 4, none⟩ = some (.slice A0' x.g.vals.length c0') := (hbc.cell (p := ⟨x.b, x.off + 4, none⟩) HWb.out.lt).trans (set_other yb4 (by omega)); have HWc := Lib.hid ((HWb.out.put (x.off + 3) (.slice A1 x.g.items.length c1)).below hbc HWb.out.lt); have yf4 := HWc.out.frozen (x.off + 4); have HBc := Lib.hid hbc; have HNO := Lib.hid hno; clear hfo hno hbc))
    have hmix : Try.prog.follows .mixedOrders = true := by kernel_rfl
    have yd4 : (Wc.setCell ⟨x.b, x.off + 4, none⟩ (.slice A2 x.g.vals.length c2)).cell? ⟨x.b, x.off + 4, none⟩ = some (.slice A2 x.g.vals.length c2) := World.cell?_setCell_same' _ _ _ (by rw [yc4]; rfl)
    have HWd := Lib.hid (HWc.out.put (x.off + 4) (.slice A2 x.g.vals.length c2))
    have HNd : Hid ((x.g.vals = [] ∧ A2 = none ∧ c2 = 0) ∨ (A2 = some ⟨Wb.heap.size, 0, none⟩ ∧ c2 = x.g.vals.length ∧ ∃ xs, RowO (fun k => k < w.heap.size) (Wb.setCell ⟨x.b, x.off + 3, none⟩ (.slice A1 x.g.items.length c1)) x.g.keys x.g.vals xs ∧ Whole (Wc.setCell ⟨x.b, x.off + 4, none⟩ (.slice A2 x.g.vals.length c2)) Wb.heap.size 79 xs.toArray)) := by
      rcases HNO.out with h0 | ⟨hA, hc, xs, hr, hw⟩
      · exact .inl h0
      · exact .inr ⟨hA, hc, xs, hr, hw.far (by have := HWb.out.lt; simp only; omega) _⟩
    obtain ⟨Wd, hWd⟩ : ∃ Wd, Wd = Wc.setCell ⟨x.b, x.off + 4, none⟩ (.slice A2 x.g.vals.length c2) := ⟨_, rfl⟩
    have HRD : Hid (∀ wr, Below Wd.heap.size Wd wr → Round w.heap.size w g rest x W Wa Wb Wc wr A1 A2 c1 c2) := fun wr hb => ⟨HJ.out, HKL.out, HBa.out, HBb.out, HBc.out, by rw [hWd, size_set] at hb; exact hb, HNL.out, HNO.out⟩
    rw [← hWd] at yd4 HWd HNd ⊢
    clear hWd yc4 yf4 yb3 yb4 yf3 ya2 ya3 ya4 yf2 hx2 hx3 hx4
    gi_loopw [38] (CKeyRel Wd x.g.vals.length) (fun i _ => x.g.vals.length - (intOf i).toNat)
    case atStart => exact ⟨0, rfl, Nat.zero_le _, Below.refl _ _⟩
    case round =>
      obtain ⟨k, rfl, hk, hB⟩ := hrel
      by_cases hlt : k < x.g.vals.length
      · have hlk : k < x.g.keys.length := by have := HKL.out; omega
        rcases HNd.out with ⟨h0, _⟩ | ⟨rfl, rfl, xs, hr, hw⟩
        · rw [h0] at hlt; simp at hlt
        have hkey := rowO_key hr (List.getElem?_eq_getElem hlk)
        have hkz : x.g.keys[k].size ≤ 281474976710656 := by
          have h1 := ksum_take x.g.keys k hlk
          have h2 := ksum_le x.g.keys (k + 1)
          omega
        have hwr := hw.below hB hw.lt
        have zc : wr.cell? ⟨Wb.heap.size, k * 6, none⟩ = some (.string x.g.keys[k]) := (hwr.cell _).trans (by simpa using hkey)
        have zf : wr.frozen? ⟨Wb.heap.size, k * 6, none⟩ = false := hwr.frozen _
        have zo : wr.cell? ⟨x.b, x.off + 4, none⟩ = some (.slice (some ⟨Wb.heap.size, 0, none⟩) x.g.vals.length x.g.vals.length) := (hB.cell (p := ⟨x.b, x.off + 4, none⟩) HWd.out.lt).trans yd4
        have hlx : x.b < wr.heap.size := by have h1 := HWd.out.lt; have h2 := hB.size; omega
        have HWR := Lib.hid hwr
        have HKEY := Lib.hid hkey
        clear hr hw hwr hkey
        generalize x.g.keys[k] = kk at *
        gi_wp2
        have zg : ∀ (d : Nat) (os : Array Obj), (grow (redrawn wr d) os).frozen? ⟨Wb.heap.size, k * 6, none⟩ = false := fun d os => (HWR.out.below (below_regrown wr d os) HWR.out.lt).frozen _
        have zs : ∀ (d : Nat) (os : Array Obj), (grow (redrawn wr d) os).setCell ⟨Wb.heap.size, k * 6, none⟩ (.string kk) = grow (redrawn wr d) os := fun d os => set_same (cell_regrown zc d os)
        have zcr := cell_regrown zc
        have zor := cell_regrown zo
        have hcl : ∀ (d : Nat) (os : Array Obj), CallsIn (Fence.wide.inRound l) 6 Try.prog 37 #[.string kk] (grow (redrawn wr d) os) fun e w'' => e = .returned (.string kk) ∧ ∃ p : Regrown, w'' = grow (redrawn wr p.d) p.os := fun d os => CallsIn.regrown_of ((CallsIn.inRound l (callsIn_wide.2 (call_clone _ _ hkz))).mono fun e W1 ⟨h1, h2⟩ => ⟨h1, h2⟩)
        refine region_quiet_round (by assumption) (by kernel_rfl) (by kernel_rfl) ?_
        repeat (refine wpQuietIn_step (fun _ _ _ _ => trivial) (fun K hK => ?_); go_simp; first | (refine hK _ ?_; clear hK K) | (apply Exists.intro; refine ⟨fun _ => ?_, hK _ ?_⟩; exact hcl _ _; clear hK K))
        refine wpQuietIn_nil ?_
        intro _ hw'
        obtain ⟨⟨dq, osq⟩, hw''⟩ := hw'
        subst hw''
        clear zs zg zcr zor hcl
        gi_wp2
        go_roundw
        case rel => exact ⟨k + 1, by go_simp, by omega, hB.trans ((below_regrown wr dq osq).mono hB.size)⟩
        all_goals (simp [intOf]; omega)
      · gi_wp2
        exact (HRD.out wr hB).done hO
  case done =>
    rintro D W hD hJ hK
    have hDlt : D < W.heap.size := (Array.getElem?_eq_some_iff.1 hK).1
    have hat := hJ.wand (W.putObj D (.deferred none)) (fun b e cs he hd => ⟨cs, hd.apart hK rfl _, fun j v hv _ => hv⟩) (fun x hx => by cases hx)
    obtain ⟨L2, O2, h0, h1, h2, h3, h4, hL2, hO2⟩ := GV.at_iff.1 hat
    obtain ⟨A2, c2, rfl⟩ := lst_form hL2
    obtain ⟨A3, c3, rfl⟩ := obj_form hO2
    have hn0 : w.heap.size ≠ D := by simp at hD; omega
    have hback : ∀ (j : Nat), (W.putObj D (.deferred none)).cell? ⟨w.heap.size, j, none⟩ = W.cell? ⟨w.heap.size, j, none⟩ := fun j => World.cell?_of_block (a := ⟨w.heap.size, j, none⟩) (World.putObj_heap_other hn0)
    rw [hback] at h0 h1 h2 h3 h4
    obtain ⟨r0, r1, r2, r3, r4, f0, f1, f2, f3, f4⟩ := hJ.res.five
    simp only [Nat.zero_add] at h1 h2 h3 h4
    have hfar : ∀ k, k ≠ w.heap.size + 1 → ((put5 W (w.heap.size + 1) (.int .u8 g.kind) (.int .i64 g.num) (.string g.str) (.slice A2 g.items.length c2) (.slice A3 g.vals.length c3)).putObj D (.deferred none)).heap[k]? = (W.putObj D (.deferred none)).heap[k]? := fun k hk => by
      by_cases e : k = D
      · subst e
        rw [World.putObj_heap_same hDlt, World.putObj_heap_same (by simpa [put5, World.setCell] using hDlt)]
      · rw [World.putObj_heap_other e, World.putObj_heap_other e, put5_block _ _ _ _ _ _ _ _ hk]
    have hL3 : LstV (fun k => w.heap.size ≤ k) ((put5 W (w.heap.size + 1) (.int .u8 g.kind) (.int .i64 g.num) (.string g.str) (.slice A2 g.items.length c2) (.slice A3 g.vals.length c3)).putObj D (.deferred none)) (.slice A2 g.items.length c2) g.items := hL2.keep (fun k hk _ => hfar k hk.2) (fun k hk _ => hk.1)
    have hO3 : ObjV (fun k => w.heap.size ≤ k) ((put5 W (w.heap.size + 1) (.int .u8 g.kind) (.int .i64 g.num) (.string g.str) (.slice A2 g.items.length c2) (.slice A3 g.vals.length c3)).putObj D (.deferred none)) (.slice A3 g.vals.length c3) g.keys g.vals := hO2.keep (fun k hk _ => hfar k hk.2) (fun k hk _ => hk.1)
    have HR := Lib.hid hJ.res
    have HB := Lib.hid hJ.below
    have HV := Lib.hid (And.intro hL3 hO3)
    clear hJ hat hL2 hO2 hL3 hO3 hback hfar
    gi_wp2
    have hK' := (((((KeepsOthers.setCell W ⟨w.heap.size + 1, 0, none⟩ (.int .u8 g.kind)).trans (KeepsOthers.setCell _ ⟨w.heap.size + 1, 1, none⟩ (.int .i64 g.num))).trans (KeepsOthers.setCell _ ⟨w.heap.size + 1, 2, none⟩ (.string g.str))).trans (KeepsOthers.setCell _ ⟨w.heap.size + 1, 3, none⟩ (.slice A2 g.items.length c2))).trans (KeepsOthers.setCell _ ⟨w.heap.size + 1, 4, none⟩ (.slice A3 g.vals.length c3))).same D _ hK rfl
    refine ⟨by simp, .inl ⟨_, _, rfl, run_takeDeferred hK', ?_⟩⟩
    have hw5 := (((((HR.out.put 0 (.int .u8 g.kind)).put 1 (.int .i64 g.num)).put 2 (.string g.str)).put 3 (.slice A2 g.items.length c2)).put 4 (.slice A3 g.vals.length c3)).apart hK' rfl (.deferred none)
    obtain ⟨d0, d1, d2, d3, d4, _⟩ := Whole.five (a0 := .int .u8 g.kind) (a1 := .int .i64 g.num) (a2 := .string g.str) (a3 := .slice A2 g.items.length c2) (a4 := .slice A3 g.vals.length c3) hw5
    refine ⟨.agg #[.int .u8 g.kind, .int .i64 g.num, .string g.str, .slice A2 g.items.length c2, .slice A3 g.vals.length c3], ?_, _, rfl, ⟨_, _, rfl, HV.out.1, HV.out.2⟩, ?_⟩
    · simp [results, Try.results28, go_sem, d0, d1, d2, d3, d4]
    · exact below_apart (put5_below HB.out (by omega) _ _ _ _ _) (by simp at hD; omega) hK' _
  case stop =>
    rintro D c W _ h _
    exact h.elim
end Go.Proofs.Ytlgggalbngpelaa
