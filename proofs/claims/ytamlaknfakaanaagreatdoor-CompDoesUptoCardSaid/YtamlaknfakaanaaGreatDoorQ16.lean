/- Texts in one: CompS, CompC, OneA. -/
import Derived.Test.YtamlaknfakaanaaGreatDoorQ9
import Derived.Test.YtamlaknfakaanaaGreatDoorQ14
import Derived.Test.YtamlaknfakaanaaGreatDoorQ15
import Derived.Laws.StructEq
import Derived.Test.YtamlaknfakaanaaGreatDoorQ12
import Derived.Laws.Concat
namespace Go.Proofs.YtamlaknfakaanaaGreatDoor
open Go Go.RowKit
set_option linter.unusedVariables false
set_option linter.unusedSimpArgs false
structure Cc (W : World) (c : GC) (A AL AO : Option Addr) (cp cL cO : Nat) : Prop where
  path : Wy W A cp c.path
  v : Vl W c.v AL AO cL cO
theorem Cc.later {W W' : World} {c : GC} {A AL AO : Option Addr} {cp cL cO : Nat} (h : Cc W c A AL AO cp cL cO) (hb : Below W.heap.size W W') : Cc W' c A AL AO cp cL cO := ⟨h.path.later hb, h.v.later hb⟩
theorem wy_nil (W : World) : Wy W none 0 [] := ⟨fun h => absurd rfl h, Nat.le_refl _, by decide⟩
theorem vl_noG (W : World) : Vl W noG none none 0 0 := ⟨.inl ⟨rfl, rfl⟩, ⟨rfl, .inl ⟨rfl, rfl⟩⟩⟩
theorem cc_no (W : World) : Cc W noC none none none 0 0 0 := ⟨wy_nil W, vl_noG W⟩
theorem equal_apart (A B : Option Addr) (n m c d : Nat) (hnm : n ≠ m) (w : World) : Calls Tryz.prog 95 #[.slice A n c, .slice B m d] w fun e w' => e = .returned (.bool false) ∧ w' = w := by
  have h : ¬ (n : Int) = (m : Int) := by omega
  clear hnm
  go_enter Tryz.func95, Tryz.ntmps95
  go_wp2
  go_ret
  exact ⟨rfl, rfl⟩
theorem equal_steps {w : World} {A B : Option Addr} {c d : Nat} {ps qs : List GStep} (hP : Wy w A c ps) (hQ : Wy w B d qs) :
    Calls Tryz.prog 95 #[.slice A ps.length c, .slice B qs.length d] w fun e w' => e = .returned (.bool (samePB ps qs)) ∧ Below w.heap.size w w' := by
  by_cases hl : ps.length = qs.length
  · by_cases hq : qs = []
    · subst hq
      have hp : ps = [] := List.length_eq_zero_iff.1 (by simpa using hl)
      subst hp
      exact (equal_none A B c d w).mono fun e w' ⟨he, hw⟩ => ⟨by rw [he]; rfl, by rw [hw]; exact Below.refl _ _⟩
    · have hp : ps ≠ [] := by intro e; apply hq; rw [e] at hl; exact List.length_eq_zero_iff.1 (by simpa using hl.symm)
      have h1 := hP.le
      have h2 := hP.cap
      have h3 := hQ.le
      have h4 := hQ.cap
      unfold maxLen at h2 h4
      obtain ⟨⟨pb, po, sp⟩, rfl, hs, _, hpc⟩ := hP.steps hp
      obtain ⟨⟨qb, qo, sp'⟩, rfl, hs', _, hqc⟩ := hQ.steps hq
      simp only at hs hs'
      subst hs hs'
      have h := AnyQ.slices_Equal Tryz.equalS 3 Tryz.isAgg61 Tryz.sizeOf61 encG (fun _ => rfl) sameStep neq_step pb po ps.length c qb qo qs.length d ps qs w (Nat.le_refl _) (Nat.le_refl _) (by omega) (by omega) (cellsG hpc) (cellsG hqc)
      refine Calls.mono h fun e w' ⟨he, q, hw⟩ => ⟨?_, ?_⟩
      · rw [he, List.take_length, List.take_length]; simp [samePB, hl]
      · rw [hw]; exact ⟨rfl, rfl, rfl, Nat.le_refl _, fun _ _ => rfl⟩
  · exact (equal_apart A B _ _ c d hl w).mono fun e w' ⟨he, hw⟩ => ⟨by rw [he]; simp [samePB, hl], by rw [hw]; exact Below.refl _ _⟩
structure CTwo (w W : World) (ca cb : Array Value) : Prop where
  a : Whole W w.heap.size 35 ca
  b : Whole W (w.heap.size + 1) 35 cb
  below : Below w.heap.size w W
theorem CTwo.new (w : World) (ca cb : Array Value) : CTwo w ((w.alloc (.cells ca 35)).alloc (.cells cb 35)) ca cb :=
  ⟨(Whole.new w 35 ca).alloc _, by have := Whole.new (w.alloc (.cells ca 35)) 35 cb; rwa [World.size_alloc] at this, ((Below.refl _ _).alloc (Nat.le_refl _) _).alloc (by simp) _⟩
theorem CTwo.step {w W W' : World} {ca cb : Array Value} (h : CTwo w W ca cb) (hb : Below W.heap.size W W') : CTwo w W' ca cb :=
  ⟨h.a.below hb h.a.lt, h.b.below hb h.b.lt, h.below.trans (hb.mono h.below.size)⟩
set_option maxRecDepth 100000 in
set_option maxHeartbeats 8000000 in
theorem comp_Same (a b : GC) (A AL AO A' AL' AO' : Option Addr) (cp cL cO cp' cL' cO' : Nat) (w : World) (ha : Cc w a A AL AO cp cL cO) (hb : Cc w b A' AL' AO' cp' cL' cO') (hwa : a.v.weight ≤ 1000000000) (hwb : b.v.weight ≤ 1000000000) :
    Calls Tryz.prog 68 #[.agg #[.int .u8 a.kind, .slice A a.path.length cp, .string a.key, .int .i64 a.i, .int .i64 a.j, .int .i64 a.n, .int .u8 a.v.kind, .int .i64 a.v.num, .string a.v.str, .slice AL a.v.items.length cL, .slice AO a.v.vals.length cO, .string a.s], .agg #[.int .u8 b.kind, .slice A' b.path.length cp', .string b.key, .int .i64 b.i, .int .i64 b.j, .int .i64 b.n, .int .u8 b.v.kind, .int .i64 b.v.num, .string b.v.str, .slice AL' b.v.items.length cL', .slice AO' b.v.vals.length cO', .string b.s]] w (EqPost (a.Same b) w) := by
  have H0 := Lib.hid (CTwo.new w #[.int .u8 a.kind, .slice A a.path.length cp, .string a.key, .int .i64 a.i, .int .i64 a.j, .int .i64 a.n, .int .u8 a.v.kind, .int .i64 a.v.num, .string a.v.str, .slice AL a.v.items.length cL, .slice AO a.v.vals.length cO, .string a.s] #[.int .u8 b.kind, .slice A' b.path.length cp', .string b.key, .int .i64 b.i, .int .i64 b.j, .int .i64 b.n, .int .u8 b.v.kind, .int .i64 b.v.num, .string b.v.str, .slice AL' b.v.items.length cL', .slice AO' b.v.vals.length cO', .string b.s])
  have HSS : Hid (a.Same b ↔ a.kind = b.kind ∧ a.key.toList = b.key.toList ∧ a.i = b.i ∧ a.j = b.j ∧ a.n = b.n ∧ a.s.toList = b.s.toList ∧ samePB a.path b.path = true ∧ a.v.Same b.v) := Lib.hid Iff.rfl
  have hE := fun W (h : Below w.heap.size w W) => equal_steps (ha.path.later h) (hb.path.later h)
  have hV := fun W (h : Below w.heap.size w W) => val_Same (fun _ => True) _ _ a.v b.v W (ha.v.later h).val (hb.v.later h).val (Nat.le_trans (size_le_weight _) hwa) (Nat.le_trans (size_le_weight _) hwb)
  have HE := Lib.hid hE
  have HV := Lib.hid hV
  clear hE hV ha hb hwa hwb
  generalize a.Same b = SS at *
  generalize samePB a.path b.path = sp at *
  generalize a.v.Same b.v = Q at *
  generalize a.kind = ak at *
  generalize a.path.length = ap at *
  generalize a.key = ay at *
  generalize a.i = ai at *
  generalize a.j = aj at *
  generalize a.n = an at *
  generalize a.v.kind = avk at *
  generalize a.v.num = avn at *
  generalize a.v.str = avs at *
  generalize a.v.items.length = avl at *
  generalize a.v.vals.length = avo at *
  generalize a.s = aS at *
  generalize b.kind = bk at *
  generalize b.path.length = bp at *
  generalize b.key = bY at *
  generalize b.i = bi at *
  generalize b.j = bj at *
  generalize b.n = bn at *
  generalize b.v.kind = bvk at *
  generalize b.v.num = bvn at *
  generalize b.v.str = bvs at *
  generalize b.v.items.length = bvl at *
  generalize b.v.vals.length = bvo at *
  generalize b.s = bS at *
  by_cases q0 : ak = bk
  · subst q0
    by_cases q1 : ay.toList = bY.toList
    · have z1 : (ay.toList == bY.toList) = true := by simp [q1]
      have Q1 := Lib.hid q1
      clear q1
      by_cases q2 : ai = bi
      · subst q2
        by_cases q3 : aj = bj
        · subst q3
          by_cases q4 : an = bn
          · subst q4
            by_cases q5 : aS.toList = bS.toList
            · have z5 : (aS.toList == bS.toList) = true := by simp [q5]
              have Q5 := Lib.hid q5
              clear q5
              cases sp with
              | true =>
                go_enter Tryz.func68, Tryz.ntmps68
                go_wp2_with (first
                  | (go_at_call 95; refine (HE.out _ H0.out.below).mono ?_; rintro e w1 ⟨rfl, hb1⟩; have H1 := Lib.hid (H0.out.step hb1); obtain ⟨a0, a1, a2, a3, a4, a5, a6, a7, a8, a9, a10, a11, _⟩ := H1.out.a.tw; obtain ⟨e0, e1, e2, e3, e4, e5, e6, e7, e8, e9, e10, e11, _⟩ := H1.out.b.tw; clear hb1)
                  | (go_at_call 96; refine (HV.out _ H1.out.below).mono ?_; rintro e w2 ⟨bb, rfl, hbb, hb2⟩; have H2 := Lib.hid (And.intro hbb (H1.out.step hb2)); clear hbb hb2))
                go_ret
                exact ⟨bb, rfl, by rw [H2.out.1, HSS.out]; simp [Q1.out, Q5.out], H2.out.2.below⟩
              | false =>
                have HN := Lib.hid (show ¬ SS from fun hs => by have h := HSS.out.1 hs; simpa using h.2.2.2.2.2.2.1)
                go_enter Tryz.func68, Tryz.ntmps68
                go_wp2_with (first
                  | (go_at_call 95; refine (HE.out _ H0.out.below).mono ?_; rintro e w1 ⟨rfl, hb1⟩; have H1 := Lib.hid (H0.out.step hb1); obtain ⟨a0, a1, a2, a3, a4, a5, a6, a7, a8, a9, a10, a11, _⟩ := H1.out.a.tw; obtain ⟨e0, e1, e2, e3, e4, e5, e6, e7, e8, e9, e10, e11, _⟩ := H1.out.b.tw; clear hb1)
                  | (go_at_call 96; refine (HV.out _ H1.out.below).mono ?_; rintro e w2 ⟨bb, rfl, hbb, hb2⟩; have H2 := Lib.hid (And.intro hbb (H1.out.step hb2)); clear hbb hb2))
                go_ret
                exact ⟨false, rfl, ⟨(fun h => by cases h), fun h => absurd h HN.out⟩, H1.out.below⟩
            · have z5 : (aS.toList == bS.toList) = false := by simpa using q5
              have HN := Lib.hid (show ¬ SS from fun hs => q5 (by have h := HSS.out.1 hs; exact h.2.2.2.2.2.1))
              clear q5
              go_enter Tryz.func68, Tryz.ntmps68
              go_wp2_with (first
                | (go_at_call 95; refine (HE.out _ H0.out.below).mono ?_; rintro e w1 ⟨rfl, hb1⟩; have H1 := Lib.hid (H0.out.step hb1); obtain ⟨a0, a1, a2, a3, a4, a5, a6, a7, a8, a9, a10, a11, _⟩ := H1.out.a.tw; obtain ⟨e0, e1, e2, e3, e4, e5, e6, e7, e8, e9, e10, e11, _⟩ := H1.out.b.tw; clear hb1)
                | (go_at_call 96; refine (HV.out _ H1.out.below).mono ?_; rintro e w2 ⟨bb, rfl, hbb, hb2⟩; have H2 := Lib.hid (And.intro hbb (H1.out.step hb2)); clear hbb hb2))
              go_ret
              exact ⟨false, rfl, ⟨(fun h => by cases h), fun h => absurd h HN.out⟩, H0.out.below⟩
          · have z4 : (an == bn) = false := by simpa using q4
            have HN := Lib.hid (show ¬ SS from fun hs => q4 (by have h := HSS.out.1 hs; exact h.2.2.2.2.1))
            clear q4
            go_enter Tryz.func68, Tryz.ntmps68
            go_wp2_with (first
              | (go_at_call 95; refine (HE.out _ H0.out.below).mono ?_; rintro e w1 ⟨rfl, hb1⟩; have H1 := Lib.hid (H0.out.step hb1); obtain ⟨a0, a1, a2, a3, a4, a5, a6, a7, a8, a9, a10, a11, _⟩ := H1.out.a.tw; obtain ⟨e0, e1, e2, e3, e4, e5, e6, e7, e8, e9, e10, e11, _⟩ := H1.out.b.tw; clear hb1)
              | (go_at_call 96; refine (HV.out _ H1.out.below).mono ?_; rintro e w2 ⟨bb, rfl, hbb, hb2⟩; have H2 := Lib.hid (And.intro hbb (H1.out.step hb2)); clear hbb hb2))
            go_ret
            exact ⟨false, rfl, ⟨(fun h => by cases h), fun h => absurd h HN.out⟩, H0.out.below⟩
        · have z3 : (aj == bj) = false := by simpa using q3
          have HN := Lib.hid (show ¬ SS from fun hs => q3 (by have h := HSS.out.1 hs; exact h.2.2.2.1))
          clear q3
          go_enter Tryz.func68, Tryz.ntmps68
          go_wp2_with (first
            | (go_at_call 95; refine (HE.out _ H0.out.below).mono ?_; rintro e w1 ⟨rfl, hb1⟩; have H1 := Lib.hid (H0.out.step hb1); obtain ⟨a0, a1, a2, a3, a4, a5, a6, a7, a8, a9, a10, a11, _⟩ := H1.out.a.tw; obtain ⟨e0, e1, e2, e3, e4, e5, e6, e7, e8, e9, e10, e11, _⟩ := H1.out.b.tw; clear hb1)
            | (go_at_call 96; refine (HV.out _ H1.out.below).mono ?_; rintro e w2 ⟨bb, rfl, hbb, hb2⟩; have H2 := Lib.hid (And.intro hbb (H1.out.step hb2)); clear hbb hb2))
          go_ret
          exact ⟨false, rfl, ⟨(fun h => by cases h), fun h => absurd h HN.out⟩, H0.out.below⟩
      · have z2 : (ai == bi) = false := by simpa using q2
        have HN := Lib.hid (show ¬ SS from fun hs => q2 (by have h := HSS.out.1 hs; exact h.2.2.1))
        clear q2
        go_enter Tryz.func68, Tryz.ntmps68
        go_wp2_with (first
          | (go_at_call 95; refine (HE.out _ H0.out.below).mono ?_; rintro e w1 ⟨rfl, hb1⟩; have H1 := Lib.hid (H0.out.step hb1); obtain ⟨a0, a1, a2, a3, a4, a5, a6, a7, a8, a9, a10, a11, _⟩ := H1.out.a.tw; obtain ⟨e0, e1, e2, e3, e4, e5, e6, e7, e8, e9, e10, e11, _⟩ := H1.out.b.tw; clear hb1)
          | (go_at_call 96; refine (HV.out _ H1.out.below).mono ?_; rintro e w2 ⟨bb, rfl, hbb, hb2⟩; have H2 := Lib.hid (And.intro hbb (H1.out.step hb2)); clear hbb hb2))
        go_ret
        exact ⟨false, rfl, ⟨(fun h => by cases h), fun h => absurd h HN.out⟩, H0.out.below⟩
    · have z1 : (ay.toList == bY.toList) = false := by simpa using q1
      have HN := Lib.hid (show ¬ SS from fun hs => q1 (by have h := HSS.out.1 hs; exact h.2.1))
      clear q1
      go_enter Tryz.func68, Tryz.ntmps68
      go_wp2_with (first
        | (go_at_call 95; refine (HE.out _ H0.out.below).mono ?_; rintro e w1 ⟨rfl, hb1⟩; have H1 := Lib.hid (H0.out.step hb1); obtain ⟨a0, a1, a2, a3, a4, a5, a6, a7, a8, a9, a10, a11, _⟩ := H1.out.a.tw; obtain ⟨e0, e1, e2, e3, e4, e5, e6, e7, e8, e9, e10, e11, _⟩ := H1.out.b.tw; clear hb1)
        | (go_at_call 96; refine (HV.out _ H1.out.below).mono ?_; rintro e w2 ⟨bb, rfl, hbb, hb2⟩; have H2 := Lib.hid (And.intro hbb (H1.out.step hb2)); clear hbb hb2))
      go_ret
      exact ⟨false, rfl, ⟨(fun h => by cases h), fun h => absurd h HN.out⟩, H0.out.below⟩
  · have z0 : (ak == bk) = false := by simpa using q0
    have HN := Lib.hid (show ¬ SS from fun hs => q0 (by have h := HSS.out.1 hs; exact h.1))
    clear q0
    go_enter Tryz.func68, Tryz.ntmps68
    go_wp2_with (first
      | (go_at_call 95; refine (HE.out _ H0.out.below).mono ?_; rintro e w1 ⟨rfl, hb1⟩; have H1 := Lib.hid (H0.out.step hb1); obtain ⟨a0, a1, a2, a3, a4, a5, a6, a7, a8, a9, a10, a11, _⟩ := H1.out.a.tw; obtain ⟨e0, e1, e2, e3, e4, e5, e6, e7, e8, e9, e10, e11, _⟩ := H1.out.b.tw; clear hb1)
      | (go_at_call 96; refine (HV.out _ H1.out.below).mono ?_; rintro e w2 ⟨bb, rfl, hbb, hb2⟩; have H2 := Lib.hid (And.intro hbb (H1.out.step hb2)); clear hbb hb2))
    go_ret
    exact ⟨false, rfl, ⟨(fun h => by cases h), fun h => absurd h HN.out⟩, H0.out.below⟩
end Go.Proofs.YtamlaknfakaanaaGreatDoor

namespace Go.Proofs.YtamlaknfakaanaaGreatDoor
open Go Go.RowKit
set_option linter.unusedVariables false
set_option linter.unusedSimpArgs false
def Kp (n : Nat) (w1 W : World) : Prop := w1.heap.size ≤ W.heap.size ∧ ∀ k, n ≤ k → k < w1.heap.size → W.heap[k]? = w1.heap[k]?
theorem Kp.refl (n : Nat) (w : World) : Kp n w w := ⟨Nat.le_refl _, fun _ _ _ => rfl⟩
theorem Kp.set {n : Nat} {w1 W : World} (h : Kp n w1 W) {p : Addr} (hp : p.block < n) (u : Value) : Kp n w1 (W.setCell p u) := ⟨by rw [size_set]; exact h.1, fun k hk hl => by rw [Below.heap_setCell W p u k (by omega)]; exact h.2 k hk hl⟩
theorem put12 {W : World} {b : Nat} {t : TypeId} {z0 z1 z2 z3 z4 z5 z6 z7 z8 z9 z10 z11 : Value} (h : Whole W b t #[z0, z1, z2, z3, z4, z5, z6, z7, z8, z9, z10, z11]) (a0 a1 a2 a3 a4 a5 a6 a7 a8 a9 a10 a11 : Value) : Whole ((((((((((((W.setCell ⟨b, 0, none⟩ a0).setCell ⟨b, 1, none⟩ a1).setCell ⟨b, 2, none⟩ a2).setCell ⟨b, 3, none⟩ a3).setCell ⟨b, 4, none⟩ a4).setCell ⟨b, 5, none⟩ a5).setCell ⟨b, 6, none⟩ a6).setCell ⟨b, 7, none⟩ a7).setCell ⟨b, 8, none⟩ a8).setCell ⟨b, 9, none⟩ a9).setCell ⟨b, 10, none⟩ a10).setCell ⟨b, 11, none⟩ a11) b t #[a0, a1, a2, a3, a4, a5, a6, a7, a8, a9, a10, a11] := by
  have h1 : Whole _ b t #[a0, z1, z2, z3, z4, z5, z6, z7, z8, z9, z10, z11] := h.put 0 a0
  have h2 : Whole _ b t #[a0, a1, z2, z3, z4, z5, z6, z7, z8, z9, z10, z11] := h1.put 1 a1
  have h3 : Whole _ b t #[a0, a1, a2, z3, z4, z5, z6, z7, z8, z9, z10, z11] := h2.put 2 a2
  have h4 : Whole _ b t #[a0, a1, a2, a3, z4, z5, z6, z7, z8, z9, z10, z11] := h3.put 3 a3
  have h5 : Whole _ b t #[a0, a1, a2, a3, a4, z5, z6, z7, z8, z9, z10, z11] := h4.put 4 a4
  have h6 : Whole _ b t #[a0, a1, a2, a3, a4, a5, z6, z7, z8, z9, z10, z11] := h5.put 5 a5
  have h7 : Whole _ b t #[a0, a1, a2, a3, a4, a5, a6, z7, z8, z9, z10, z11] := h6.put 6 a6
  have h8 : Whole _ b t #[a0, a1, a2, a3, a4, a5, a6, a7, z8, z9, z10, z11] := h7.put 7 a7
  have h9 : Whole _ b t #[a0, a1, a2, a3, a4, a5, a6, a7, a8, z9, z10, z11] := h8.put 8 a8
  have h10 : Whole _ b t #[a0, a1, a2, a3, a4, a5, a6, a7, a8, a9, z10, z11] := h9.put 9 a9
  have h11 : Whole _ b t #[a0, a1, a2, a3, a4, a5, a6, a7, a8, a9, a10, z11] := h10.put 10 a10
  have h12 : Whole _ b t #[a0, a1, a2, a3, a4, a5, a6, a7, a8, a9, a10, a11] := h11.put 11 a11
  exact h12
end Go.Proofs.YtamlaknfakaanaaGreatDoor

namespace Go.Proofs.YtamlaknfakaanaaGreatDoor
open Go Go.RowKit
set_option linter.unusedVariables false
set_option linter.unusedSimpArgs false
def VOk (g : GV) : Prop := g.Sound ∧ g.deep ≤ 6 ∧ g.weight ≤ 6000 ∧ g.Asc
def BuildA (W : World) (e : Ending) (w' : World) : Prop :=
  ∃ (g : GV) (BL BO : Option Addr) (dL dO : Nat), e = .returned (.agg #[.int .u8 g.kind, .int .i64 g.num, .string g.str, .slice BL g.items.length dL, .slice BO g.vals.length dO]) ∧ (LstV (fun k => W.heap.size ≤ k) w' (.slice BL g.items.length dL) g.items ∧ ObjV (fun k => W.heap.size ≤ k) w' (.slice BO g.vals.length dO) g.keys g.vals) ∧ VOk g ∧ Below W.heap.size W w'
theorem build_A (hi : Nat) (A : Option Addr) (cap : Nat) (ts : List GTok) (w : World) (hcap : ts.length ≤ cap) (hm : cap ≤ maxLen) (hhi : hi ≤ w.heap.size) (hT : Toks hi w A ts)
    (hr : ∀ t ∈ ts, 0 ≤ t.k ∧ t.k ≤ 255 ∧ 0 ≤ t.m ∧ t.m ≤ 255) (hss : ∀ t ∈ ts, t.s.size ≤ 140737488351232) : Calls Tryz.prog 7 #[.slice A ts.length cap] w (BuildA w) :=
  (Build_len hi A cap ts w hcap hm hhi hT hr hss).mono fun e w' ⟨g, v, he, hv, hg, hw, hb⟩ => by
    obtain ⟨L, O, rfl, hL, hO⟩ := hv
    obtain ⟨BL, dL, rfl⟩ := lst_form hL
    obtain ⟨BO, dO, rfl⟩ := obj_form hO
    exact ⟨g, BL, BO, dL, dO, he, ⟨hL, hO⟩, ⟨hg.1, by have := hg.2.1; omega, hw, hg.2.2.2⟩, hb⟩
theorem vok_no : VOk noG := ⟨by simp [noG, GV.Sound, GV.Sounds, SelfP], by simp [noG, GV.deep, GV.deeps], by unfold noG; simp only [GV.weight, GV.weights, List.map_nil, List.sum_nil]; decide, by simp [noG, GV.Asc, GV.Ascs, asc_none]⟩
end Go.Proofs.YtamlaknfakaanaaGreatDoor

