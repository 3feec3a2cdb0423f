/- raw, Raw: whatever the pieces are, a value comes out; it lies in new memory, and weighs no more than twice what the pieces do. -/
import Derived.Test.YtbmfjchdmicdoaaDoorRawInv
import Derived.WalkKit
import Derived.WalkSpells
import Derived.WalkLawsBesides
import Derived.Lib.Hide
namespace Go.Proofs.YtbmfjchdmicdoaaDoor
open Go Go.RowKit

theorem raw_nil (A : Option Addr) (cap : Nat) (d : Int) (w : World) :
    Calls Tryd.prog 37 #[.slice A 0 cap, .int .i64 d] w (RawPost [] w) := by
  go_enter Tryd.func37, Tryd.ntmps37
  go_wp2
  refine bodyPost_ret (v := .tuple #[.agg #[.int .u8 0, .int .i64 0, .string ⟨#[]⟩, .slice none 0 0, .slice none 0 0], .int .i64 0]) (by simp [results, Tryd.results37, go_sem]) rfl ?_
  exact ⟨.mk 0 0 ⟨#[]⟩ [] [] [], _, _, 0, rfl, .inl ⟨rfl, rfl⟩, ⟨rfl, .inl ⟨rfl, rfl⟩⟩, by simp [GV.Pos, GV.Poss], Nat.zero_le _, fun h => absurd rfl h, fun _ => ⟨rfl, by decide⟩, (Below.refl _ _).alloc (Nat.le_refl _) _⟩

def RawRel (w : World) (t : GTok) (ts : List GTok) (used i : Value) (wr : World) : Prop :=
  ∃ (u k : Nat), used = .int .i64 u ∧ i = .int .u8 k ∧ 1 ≤ u ∧ u ≤ ts.length ∧ (k : Int) ≤ t.m % 4 ∧ RawInv w t ts u wr

set_option maxHeartbeats 4000000 in
theorem raw_any (F : Nat) : ∀ (hi : Nat) (A : Option Addr) (cap : Nat) (ts : List GTok) (d : Nat) (w : World), ts.length ≤ F → ts.length ≤ cap → cap ≤ maxLen → ts.length ≤ 200 → d ≤ 20 → hi ≤ w.heap.size → Toks hi w A ts →
    (∀ t ∈ ts, 0 ≤ t.k ∧ t.k ≤ 255 ∧ 0 ≤ t.m ∧ t.m ≤ 255) →
    Calls Tryd.prog 37 #[.slice A ts.length cap, .int .i64 d] w (RawPost ts w) := by
  induction F with
  | zero =>
    intro hi A cap ts d w hF _ _ _ _ _ _ _
    have : ts = [] := List.eq_nil_of_length_eq_zero (by omega)
    subst this
    exact raw_nil A cap d w
  | succ F ih =>
    intro hi A cap ts d w hF hcap hm h200 hd hhi hT hrange
    by_cases hts : ts = []
    · subst hts; exact raw_nil A cap d w
    obtain ⟨⟨ab, ao, _⟩, rfl, rfl, hl, hc⟩ := hT hts
    obtain ⟨t, rest, rfl⟩ : ∃ t r, ts = t :: r := by cases ts with | nil => exact absurd rfl hts | cons t r => exact ⟨t, r, rfl⟩
    obtain ⟨hc0, hc1, hc2, hc3⟩ := hc 0 t rfl
    simp only [Nat.zero_mul, Nat.add_zero] at hc0 hc1 hc2 hc3
    simp only at hl
    have hcA : ∀ (o : Obj) (j : Nat) (v : Value), w.cell? ⟨ab, j, none⟩ = some v → (w.alloc o).cell? ⟨ab, j, none⟩ = some v := fun o j v h => (World.cell?_of_block (a := ⟨ab, j, none⟩) (Below.heap_alloc w o ab (by omega))).trans h
    have hd0 := fun o => hcA o _ _ hc0
    have hd1 := fun o => hcA o _ _ hc1
    have hd2 := fun o => hcA o _ _ hc2
    have hd3 := fun o => hcA o _ _ hc3
    clear hcA hc0 hc1 hc2 hc3
    obtain ⟨hk0, hk1, hm0, hm1⟩ := hrange t (by simp)
    unfold maxLen at hm
    have hlen : (t :: rest).length = rest.length + 1 := rfl
    have HT := Lib.hid hT
    have HC := Lib.hid hc
    have HR := Lib.hid hrange
    have HI := Lib.hid ih
    clear hT hc hrange hlen ih hts
    generalize hn : (t :: rest).length = n at *
    have HN := Lib.hid hn
    have hn1 : 1 ≤ n := by rw [← hn]; simp
    clear hn
    have hnz : ((n : Int) == 0) = false := by simp; omega
    go_enter Tryd.func37, Tryd.ntmps37
    go_wp2
    go_loopw [8, 9] (RawRel w t (t :: rest)) (fun _ i _ => (t.m % 4 - intOf i).toNat)
    case atStart =>
      refine ⟨1, 0, rfl, rfl, Nat.le_refl _, by simp, by simp only [Int.ofNat_zero]; omega, ?_⟩
      refine ⟨(((Below.refl _ _).alloc (Nat.le_refl _) _).alloc (by simp) _).alloc (by simp; omega) _, ?_, ?_, ?_⟩
      · have h := (Whole.new (w.alloc (.cells #[.int .u8 0, .int .i64 0, .string ⟨#[]⟩, .slice none 0 0, .slice none 0 0] 29)) 55 #[.int .u8 t.k, .int .i64 t.n, .string t.s, .int .u8 t.m]).alloc (.cells #[.int .u8 t.k, .int .i64 t.n, .string t.s, .slice none 0 0, .slice none 0 0] 29)
        rw [World.size_alloc] at h
        exact h
      · exact ⟨_, rfl, ((Whole.new w _ _).alloc _).alloc _⟩
      · have h := Whole.new ((w.alloc (.cells #[.int .u8 0, .int .i64 0, .string ⟨#[]⟩, .slice none 0 0, .slice none 0 0] 29)).alloc (.cells #[.int .u8 t.k, .int .i64 t.n, .string t.s, .int .u8 t.m] 55)) 29 #[.int .u8 t.k, .int .i64 t.n, .string t.s, .slice none 0 0, .slice none 0 0]
        rw [World.size_alloc, World.size_alloc] at h
        exact ⟨[], [], [], _, _, [], [], h, World.ownsRow_nil _ _ _ _, World.ownsRow_nil _ _ _ _, rfl, rfl, by simp [GV.weights, tot]; omega, Nat.zero_le _, Nat.zero_le _, hk0, by simp, by simp⟩
    case round =>
      obtain ⟨u, k, rfl, rfl, hu1, hu2, hk, hinv⟩ := hrel
      have HV := Lib.hid hinv
      obtain ⟨l, ks, ov, vL, vO, xs, ys, hps⟩ := hinv.ps
      obtain ⟨AL, cL, rfl⟩ := own_form hps.ownL
      obtain ⟨AO, cO, rfl⟩ := own_form hps.ownO
      have ht0 : wr.cell? ⟨w.heap.size + 1, 0, none⟩ = some (.int .u8 t.k) := (hps.tok.cell 0).trans rfl
      have ht3 : wr.cell? ⟨w.heap.size + 1, 3, none⟩ = some (.int .u8 t.m) := (hps.tok.cell 3).trans rfl
      have hun : u ≤ n := by rw [← HN.out]; exact hu2
      have HU := Lib.hid hu2
      clear hinv hu2
      by_cases hgo : (k : Int) < t.m % 4 ∧ d < 20
      · obtain ⟨hlt, hd20⟩ := hgo
        have hd20z : (d : Int) < 20 := by omega
        have HP := Lib.hid hps
        clear hps
        by_cases hend : u = n
        · subst hend
          have hcall := fun (A : Option Addr) (c : Nat) (W : World) => raw_nil A c ((d : Int) + 1) W
          go_wp2_with (go_at_call 37; refine (hcall _ _ _).mono ?_; rintro e W1 ⟨g, L, O, n1, rfl, hL, hO, _, hn1, _, hnil, hb1⟩; obtain ⟨rfl, _⟩ := hnil rfl; obtain ⟨BL, dL, rfl⟩ := lst_form hL; obtain ⟨BO, dO, rfl⟩ := obj_form hO; clear hL hO hnil hn1; obtain ⟨hr0, hr1, hr2, hr3, hr4, _, _, _, _, ⟨z0, z1, z2, z3, z4, hz0, hz1, hz2, hz3, hz4⟩, hrf⟩ := (HP.out.step hb1).ready; have q0 := fun o => cell_alloc o hr0; have q1 := fun o => cell_alloc o hr1; have q2 := fun o => cell_alloc o hr2; have q3 := fun o => cell_alloc o hr3; have q4 := fun o => cell_alloc o hr4; have y0 := fun o => cell_alloc o hz0; have y1 := fun o => cell_alloc o hz1; have y2 := fun o => cell_alloc o hz2; have y3 := fun o => cell_alloc o hz3; have y4 := fun o => cell_alloc o hz4; have x0 := fun o => frozen_alloc o hz0 (hrf 0); have x1 := fun o => frozen_alloc o hz1 (hrf 1); have x2 := fun o => frozen_alloc o hz2 (hrf 2); have x3 := fun o => frozen_alloc o hz3 (hrf 3); have x4 := fun o => frozen_alloc o hz4 (hrf 4); clear hr0 hr1 hr2 hr3 hr4 hz0 hz1 hz2 hz3 hz4 hrf)
          all_goals
            refine bodyPost_ret (v := .tuple #[.agg #[.int .u8 t.k, .int .i64 t.n, .string t.s, .slice AL l.length cL, .slice AO ov.length cO], .int .i64 u]) (by simp [results, Tryd.results37, go_sem, y0, y1, y2, y3, y4]) rfl ?_
            exact ((HP.out.step hb1).step ((Below.refl _ W1).alloc (Nat.le_refl _) _)).done hu1 HU.out _ _ _ _ _
        · have hlt2 : u < n := by omega
          have hcu : ¬ cap = u := by omega
          have hcall : Calls Tryd.prog 37 #[.slice (some ⟨ab, ao + u * 4, none⟩) (n - u) (cap - u), .int .i64 ((d : Int) + 1)] wr (RawPost ((t :: rest).drop u) wr) := by
            have hTk : Toks hi wr (some ⟨ab, ao + u * 4, none⟩) ((t :: rest).drop u) := fun _ => ⟨⟨ab, ao + u * 4, none⟩, rfl, rfl, hl, fun i t' ht' => by
              have := (HT.out.keep (HP.out.below.mono hhi) (Nat.le_refl _)) (by simp)
              obtain ⟨a, ha, _, _, hc⟩ := this
              cases ha
              have := hc (u + i) t' (by rw [← ht', List.getElem?_drop])
              simp only [show ao + u * 4 + i * 4 = ao + (u + i) * 4 by omega]
              exact this⟩
            have := HI.out hi (some ⟨ab, ao + u * 4, none⟩) (cap - u) ((t :: rest).drop u) (d + 1) wr (by rw [List.length_drop, HN.out]; omega) (by rw [List.length_drop, HN.out]; omega) (by unfold maxLen; omega) (by rw [List.length_drop, HN.out]; omega) (by omega) (by have := HP.out.below.size; omega) hTk (fun x hx => HR.out x (List.mem_of_mem_drop hx))
            rw [List.length_drop, HN.out] at this
            exact this
          have hdne : (t :: rest).drop u ≠ [] := fun e => by have := congrArg List.length e; rw [List.length_drop, HN.out] at this; simp at this; omega
          have hll := HP.out.lenL
          have hlo := HP.out.lenO
          have b1 : l.length + 1 ≤ maxLen := by unfold maxLen; omega
          have b2 : (l.length + 1) * 80 ≤ 140737488355328 := by omega
          have b3 : ov.length + 1 ≤ maxLen := by unfold maxLen; omega
          have b4 : (ov.length + 1) * 96 ≤ 140737488355328 := by omega
          have B := Lib.hid (And.intro (And.intro b1 b2) (And.intro b3 b4))
          have HD := Lib.hid hdne
          have HC2 := Lib.hid hcall
          clear hll hlo b1 b2 b3 b4 hdne hcall
          obtain ⟨i0, hi0, hz0, hz1, hz2⟩ := info_parts infoVal
          obtain ⟨i1, hi1, hy0, hy1, hy2⟩ := info_parts infoField
          have HI0 := Lib.hid hi0
          have HZ0 := Lib.hid (And.intro hz0 (And.intro hz1 hz2))
          have HI1 := Lib.hid hi1
          have HY0 := Lib.hid (And.intro hy0 (And.intro hy1 hy2))
          clear hi0 hz0 hz1 hz2 hi1 hy0 hy1 hy2
          by_cases hpar : t.k % 2 = 0
          · have hparz : (t.k % 2 == 0) = true := by simp [hpar]
            have HPar := Lib.hid hpar
            clear hpar
            go_wp2_with (first | (go_at_call 37; refine HC2.out.mono ?_; rintro e W1 ⟨g, L, O, n1, rfl, hL, hO, hgp, hn1, hne, _, hb1⟩; have HGP := Lib.hid hgp; clear hgp; obtain ⟨hn0, hwt⟩ := hne HD.out; obtain ⟨BL, dL, rfl⟩ := lst_form hL; obtain ⟨BO, dO, rfl⟩ := obj_form hO; have HL1 := Lib.hid hL; have HO1 := Lib.hid hO; have HW1 := Lib.hid hwt; clear hL hO hwt hne; have hnz1 : ((n1 : Int) == 0) = false := by { simp; omega }; rw [List.length_drop, HN.out] at hn1; have hq := HP.out.step hb1; have HQ := Lib.hid hq; have q0 := fun o => cell_alloc o hq.ready.t0; have q3 := fun o => cell_alloc o hq.ready.v3; have q4 := fun o => cell_alloc o hq.ready.v4; clear hq) | (at_builtin; refine wpList_append_own_at _ rfl (.tmp 53) (.tmp 55) 26 rfl (w.heap.size + 3) 29 i0 _ 5 80 Tryd.underlying26 HI0.out HZ0.out.1 HZ0.out.2.1 HZ0.out.2.2 rfl (by decide) (.slice AL l.length cL) l.length xs rfl (((HQ.out.step ((Below.refl _ W1).alloc (Nat.le_refl _) _)).step ((Below.refl _ _).alloc (Nat.le_refl _) _)).ownL) ⟨W1.heap.size + 1, 0, none⟩ 1 1 (chunk g (.slice BL g.items.length dL) (.slice BO g.vals.length dO)) rfl rfl (row_cells' _ _ (by simp) _ _) (by simp [chunk, Value.oneCell']) B.out.1.1 B.out.1.2 (by have := HQ.out.val.lt; simp; omega) ?_; intro v' W3 hown' hgrow _ hat; obtain ⟨A3, c3, rfl⟩ := own_form hown'; have hw3 := ((HQ.out.step ((Below.refl _ W1).alloc (Nat.le_refl _) _)).step ((Below.refl _ _).alloc (Nat.le_refl _) _)).cellL hgrow; have w31 := hw3.1; have w32 := hw3.2; have HW3 := Lib.hid (And.intro hown' (And.intro hgrow hat)); clear hown' hgrow hat hw3))
            go_roundw
            case rel => exact ⟨u + n1, k + 1, by go_num, by go_num, by omega, by rw [HN.out]; omega, by push_cast; omega, ((HQ.out.step ((Below.refl _ W1).alloc (Nat.le_refl _) _)).step ((Below.refl _ _).alloc (Nat.le_refl _) _)).addL (HP.out.newL _ _ HL1.out) (HP.out.newO _ _ HO1.out) HW3.out.1 HW3.out.2.1 HW3.out.2.2 hn0 HGP.out HW1.out⟩
            case measure => simp [intOf]; omega
          · have hparz : (t.k % 2 == 0) = false := by simp [hpar]
            have HPar := Lib.hid hpar
            clear hpar
            go_wp2_with (first | (go_at_call 37; refine HC2.out.mono ?_; rintro e W1 ⟨g, L, O, n1, rfl, hL, hO, hgp, hn1, hne, _, hb1⟩; have HGP := Lib.hid hgp; clear hgp; obtain ⟨hn0, hwt⟩ := hne HD.out; obtain ⟨BL, dL, rfl⟩ := lst_form hL; obtain ⟨BO, dO, rfl⟩ := obj_form hO; have HL1 := Lib.hid hL; have HO1 := Lib.hid hO; have HW1 := Lib.hid hwt; clear hL hO hwt hne; have hnz1 : ((n1 : Int) == 0) = false := by { simp; omega }; rw [List.length_drop, HN.out] at hn1; have hq := HP.out.step hb1; have HQ := Lib.hid hq; have q0 := fun o => cell_alloc o hq.ready.t0; have q3 := fun o => cell_alloc o hq.ready.v3; have q4 := fun o => cell_alloc o hq.ready.v4; clear hq) | (at_builtin; refine wpList_append_own_at _ rfl (.tmp 59) (.tmp 64) 27 rfl (w.heap.size + 3) 52 i1 _ 6 96 Tryd.underlying27 HI1.out HY0.out.1 HY0.out.2.1 HY0.out.2.2 rfl (by decide) (.slice AO ov.length cO) ov.length ys rfl (((HQ.out.step ((Below.refl _ W1).alloc (Nat.le_refl _) _)).step ((Below.refl _ _).alloc (Nat.le_refl _) _)).ownO) ⟨W1.heap.size + 1, 0, none⟩ 1 1 (.string g.str :: chunk g (.slice BL g.items.length dL) (.slice BO g.vals.length dO)) rfl rfl (row_cells' _ _ (by simp) _ _) (by simp [chunk, Value.oneCell']) B.out.2.1 B.out.2.2 (by have := HQ.out.val.lt; simp; omega) ?_; intro v' W3 hown' hgrow _ hat; obtain ⟨A3, c3, rfl⟩ := own_form hown'; have hw3 := ((HQ.out.step ((Below.refl _ W1).alloc (Nat.le_refl _) _)).step ((Below.refl _ _).alloc (Nat.le_refl _) _)).cellO hgrow; have w31 := hw3.1; have w32 := hw3.2; have HW3 := Lib.hid (And.intro hown' (And.intro hgrow hat)); clear hown' hgrow hat hw3))
            go_roundw
            case rel => exact ⟨u + n1, k + 1, by go_num, by go_num, by omega, by rw [HN.out]; omega, by push_cast; omega, ((HQ.out.step ((Below.refl _ W1).alloc (Nat.le_refl _) _)).step ((Below.refl _ _).alloc (Nat.le_refl _) _)).addO (HP.out.newL _ _ HL1.out) (HP.out.newO _ _ HO1.out) HW3.out.1 HW3.out.2.1 HW3.out.2.2 hn0 HGP.out HW1.out⟩
            case measure => simp [intOf]; omega
      · have hr := hps.ready
        obtain ⟨hr0, hr1, hr2, hr3, hr4, _, _, _, _, ⟨z0, z1, z2, z3, z4, hz0, hz1, hz2, hz3, hz4⟩, hrf⟩ := hr
        have f0 := hrf 0
        have f1 := hrf 1
        have f2 := hrf 2
        have f3 := hrf 3
        have f4 := hrf 4
        have HP := Lib.hid hps
        clear hps hrf
        by_cases hlt : (k : Int) < t.m % 4
        · have hd20 : ¬ (d : Int) < 20 := by omega
          clear hgo
          go_wp2
          refine bodyPost_ret (v := .tuple #[.agg #[.int .u8 t.k, .int .i64 t.n, .string t.s, .slice AL l.length cL, .slice AO ov.length cO], .int .i64 u]) (by simp [results, Tryd.results37, go_sem, hz0, hz1, hz2, hz3, hz4]) rfl ?_
          exact HP.out.done hu1 HU.out _ _ _ _ _
        · clear hgo
          go_wp2
          refine bodyPost_ret (v := .tuple #[.agg #[.int .u8 t.k, .int .i64 t.n, .string t.s, .slice AL l.length cL, .slice AO ov.length cO], .int .i64 u]) (by simp [results, Tryd.results37, go_sem, hz0, hz1, hz2, hz3, hz4]) rfl ?_
          exact HP.out.done hu1 HU.out _ _ _ _ _
end Go.Proofs.YtbmfjchdmicdoaaDoor
