/- The document's own: Same of two components, says, in. -/
import Derived.Test.YthnljaheplhbkaaCompT
import Derived.Laws.BytesArg
namespace Go.Proofs.Ythnljaheplhbkaa
open Go Go.RowKit
set_option linter.unusedVariables false
set_option linter.unusedSimpArgs false

theorem begins_same {ps qs : List GStep} (h : ps.length = qs.length) : begins ps qs = samePB ps qs := by
  unfold begins samePB
  rw [← h, List.take_length]
  simp
theorem ref_SameP {w : World} {A B : Option Addr} {c d : Nat} {ps qs : List GStep} (hP : Wy w A c ps) (hQ : Wy w B d qs) :
    Calls Try.prog 23 #[.slice A ps.length c, .slice B qs.length d] w fun e w' => e = .returned (.bool (samePB ps qs)) ∧ Below w.heap.size w w' := by
  by_cases h : ps.length = qs.length
  · have HB := Lib.hid (ref_Begins w.heap.size A B c d ps qs w hP.steps hQ.steps (Nat.le_refl _) (Nat.le_trans hP.le hP.cap) (Nat.le_trans hQ.le hQ.cap))
    rw [begins_same h] at HB
    have hz : (((ps.length : Int)) == (qs.length : Int)) = true := by simp [h]
    clear h hP hQ
    generalize samePB ps qs = r at *
    generalize ps.length = n at *
    generalize qs.length = m at *
    go_enter Try.func23, Try.ntmps23
    go_wp2_with (go_at_call 8; refine HB.out.mono ?_; rintro e w1 ⟨rfl, hb⟩; have H1 := Lib.hid hb; clear hb)
    go_ret
    exact ⟨rfl, H1.out⟩
  · have hr : samePB ps qs = false := by simp [samePB, h]
    rw [hr]
    have hz : (((ps.length : Int)) == (qs.length : Int)) = false := by simp; omega
    clear h hP hQ hr
    generalize ps.length = n at *
    generalize qs.length = m at *
    go_enter Try.func23, Try.ntmps23
    go_wp2
    go_ret
    exact ⟨rfl, Below.refl _ _⟩

set_option maxRecDepth 100000 in
set_option maxHeartbeats 8000000 in
theorem ref_SameC (a b : GC) (A AL AO A' AL' AO' : Option Addr) (cp cL cO cp' cL' cO' : Nat) (w : World) (ha : Cc w a A AL AO cp cL cO) (hb : Cc w b A' AL' AO' cp' cL' cO') (hwa : a.v.weight ≤ 1000000000) (hwb : b.v.weight ≤ 1000000000) :
    Calls Try.prog 10 #[.agg #[.int .u8 a.kind, .slice A a.path.length cp, .string a.key, .int .i64 a.i, .int .i64 a.j, .int .i64 a.n, .int .u8 a.v.kind, .int .i64 a.v.num, .string a.v.str, .slice AL a.v.items.length cL, .slice AO a.v.vals.length cO, .string a.s], .agg #[.int .u8 b.kind, .slice A' b.path.length cp', .string b.key, .int .i64 b.i, .int .i64 b.j, .int .i64 b.n, .int .u8 b.v.kind, .int .i64 b.v.num, .string b.v.str, .slice AL' b.v.items.length cL', .slice AO' b.v.vals.length cO', .string b.s]] w (EqPost (a.Same b) w) := by
  have H0 := Lib.hid (CTwo.new w #[.int .u8 a.kind, .slice A a.path.length cp, .string a.key, .int .i64 a.i, .int .i64 a.j, .int .i64 a.n, .int .u8 a.v.kind, .int .i64 a.v.num, .string a.v.str, .slice AL a.v.items.length cL, .slice AO a.v.vals.length cO, .string a.s] #[.int .u8 b.kind, .slice A' b.path.length cp', .string b.key, .int .i64 b.i, .int .i64 b.j, .int .i64 b.n, .int .u8 b.v.kind, .int .i64 b.v.num, .string b.v.str, .slice AL' b.v.items.length cL', .slice AO' b.v.vals.length cO', .string b.s])
  obtain ⟨bq, hbq⟩ := bool_some (a.v.Same b.v)
  have HSS : Hid (a.Same b ↔ a.kind = b.kind ∧ a.key.toList = b.key.toList ∧ a.i = b.i ∧ a.j = b.j ∧ a.n = b.n ∧ a.s.toList = b.s.toList ∧ samePB a.path b.path = true ∧ bq = true) := Lib.hid (by rw [hbq]; exact Iff.rfl)
  have HE := Lib.hid (fun W (h : Below w.heap.size w W) => ref_SameP (ha.path.later h) (hb.path.later h))
  have HV := Lib.hid (fun W (h : Below w.heap.size w W) => bool_det (ref_Same a.v.size (fun _ => True) _ _ a.v b.v W (Nat.le_refl _) (ha.v.later h).val (hb.v.later h).val (Nat.le_trans (size_le_weight _) hwa) (Nat.le_trans (size_le_weight _) hwb)) bq hbq)
  clear ha hb hwa hwb hbq
  generalize a.Same b = SS at *
  generalize samePB a.path b.path = sp at *
  generalize a.kind = ak at *
  generalize a.path.length = ap at *
  generalize a.key = aY at *
  generalize a.i = ai at *
  generalize a.j = aj at *
  generalize a.n = an at *
  generalize a.v.kind = avk at *
  generalize a.v.num = avn at *
  generalize a.v.str = avs at *
  generalize a.v.items.length = avl at *
  generalize a.v.vals.length = avo at *
  generalize a.s = aS at *
  generalize b.kind = bk at *
  generalize b.path.length = bp at *
  generalize b.key = bY at *
  generalize b.i = bi at *
  generalize b.j = bj at *
  generalize b.n = bn at *
  generalize b.v.kind = bvk at *
  generalize b.v.num = bvn at *
  generalize b.v.str = bvs at *
  generalize b.v.items.length = bvl at *
  generalize b.v.vals.length = bvo at *
  generalize b.s = bS at *
  by_cases q0 : ak = bk
  · subst q0
    by_cases q1 : aY.toList = bY.toList
    · have z1 : (aY.toList == bY.toList) = true := by simp [q1]
      have Q1 := Lib.hid q1
      clear q1
      by_cases q2 : ai = bi
      · subst q2
        by_cases q3 : aj = bj
        · subst q3
          by_cases q4 : an = bn
          · subst q4
            by_cases q5 : aS.toList = bS.toList
            · have z5 : (aS.toList == bS.toList) = true := by simp [q5]
              have Q5 := Lib.hid q5
              clear q5
              cases bq with
              | true =>
                go_enter Try.func10, Try.ntmps10
                go_wp2_with (first
                  | (go_at_call 22; refine (HV.out _ H0.out.below).mono ?_; rintro e w1 ⟨rfl, hb1⟩; have H1 := Lib.hid (H0.out.step hb1); obtain ⟨a0, a1, a2, a3, a4, a5, a6, a7, a8, a9, a10, a11, _⟩ := H1.out.a.tw; obtain ⟨e0, e1, e2, e3, e4, e5, e6, e7, e8, e9, e10, e11, _⟩ := H1.out.b.tw; clear hb1)
                  | (go_at_call 23; refine (HE.out _ H1.out.below).mono ?_; rintro e w2 ⟨rfl, hb2⟩; have H2 := Lib.hid (H1.out.step hb2); clear hb2))
                go_ret
                exact ⟨sp, rfl, by rw [HSS.out]; simp [Q1.out, Q5.out], H2.out.below⟩
              | false =>
                go_enter Try.func10, Try.ntmps10
                go_wp2_with (first
                  | (go_at_call 22; refine (HV.out _ H0.out.below).mono ?_; rintro e w1 ⟨rfl, hb1⟩; have H1 := Lib.hid (H0.out.step hb1); obtain ⟨a0, a1, a2, a3, a4, a5, a6, a7, a8, a9, a10, a11, _⟩ := H1.out.a.tw; obtain ⟨e0, e1, e2, e3, e4, e5, e6, e7, e8, e9, e10, e11, _⟩ := H1.out.b.tw; clear hb1)
                  | (go_at_call 23; refine (HE.out _ H1.out.below).mono ?_; rintro e w2 ⟨rfl, hb2⟩; have H2 := Lib.hid (H1.out.step hb2); clear hb2))
                go_ret
                exact ⟨false, rfl, by rw [HSS.out]; simp, H1.out.below⟩
            · have z5 : (aS.toList == bS.toList) = false := by simpa using q5
              have HN := Lib.hid (show ¬ SS from fun hs => q5 (by have h := HSS.out.1 hs; exact h.2.2.2.2.2.1))
              clear q5
              go_enter Try.func10, Try.ntmps10
              go_wp2_with (first
                | (go_at_call 22; refine (HV.out _ H0.out.below).mono ?_; rintro e w1 ⟨rfl, hb1⟩; have H1 := Lib.hid (H0.out.step hb1); obtain ⟨a0, a1, a2, a3, a4, a5, a6, a7, a8, a9, a10, a11, _⟩ := H1.out.a.tw; obtain ⟨e0, e1, e2, e3, e4, e5, e6, e7, e8, e9, e10, e11, _⟩ := H1.out.b.tw; clear hb1)
                | (go_at_call 23; refine (HE.out _ H1.out.below).mono ?_; rintro e w2 ⟨rfl, hb2⟩; have H2 := Lib.hid (H1.out.step hb2); clear hb2))
              go_ret
              exact ⟨false, rfl, ⟨(fun h => by cases h), fun h => absurd h HN.out⟩, H0.out.below⟩
          · have z4 : (an == bn) = false := by simpa using q4
            have HN := Lib.hid (show ¬ SS from fun hs => q4 (by have h := HSS.out.1 hs; exact h.2.2.2.2.1))
            clear q4
            go_enter Try.func10, Try.ntmps10
            go_wp2_with (first
              | (go_at_call 22; refine (HV.out _ H0.out.below).mono ?_; rintro e w1 ⟨rfl, hb1⟩; have H1 := Lib.hid (H0.out.step hb1); obtain ⟨a0, a1, a2, a3, a4, a5, a6, a7, a8, a9, a10, a11, _⟩ := H1.out.a.tw; obtain ⟨e0, e1, e2, e3, e4, e5, e6, e7, e8, e9, e10, e11, _⟩ := H1.out.b.tw; clear hb1)
              | (go_at_call 23; refine (HE.out _ H1.out.below).mono ?_; rintro e w2 ⟨rfl, hb2⟩; have H2 := Lib.hid (H1.out.step hb2); clear hb2))
            go_ret
            exact ⟨false, rfl, ⟨(fun h => by cases h), fun h => absurd h HN.out⟩, H0.out.below⟩
        · have z3 : (aj == bj) = false := by simpa using q3
          have HN := Lib.hid (show ¬ SS from fun hs => q3 (by have h := HSS.out.1 hs; exact h.2.2.2.1))
          clear q3
          go_enter Try.func10, Try.ntmps10
          go_wp2_with (first
            | (go_at_call 22; refine (HV.out _ H0.out.below).mono ?_; rintro e w1 ⟨rfl, hb1⟩; have H1 := Lib.hid (H0.out.step hb1); obtain ⟨a0, a1, a2, a3, a4, a5, a6, a7, a8, a9, a10, a11, _⟩ := H1.out.a.tw; obtain ⟨e0, e1, e2, e3, e4, e5, e6, e7, e8, e9, e10, e11, _⟩ := H1.out.b.tw; clear hb1)
            | (go_at_call 23; refine (HE.out _ H1.out.below).mono ?_; rintro e w2 ⟨rfl, hb2⟩; have H2 := Lib.hid (H1.out.step hb2); clear hb2))
          go_ret
          exact ⟨false, rfl, ⟨(fun h => by cases h), fun h => absurd h HN.out⟩, H0.out.below⟩
      · have z2 : (ai == bi) = false := by simpa using q2
        have HN := Lib.hid (show ¬ SS from fun hs => q2 (by have h := HSS.out.1 hs; exact h.2.2.1))
        clear q2
        go_enter Try.func10, Try.ntmps10
        go_wp2_with (first
          | (go_at_call 22; refine (HV.out _ H0.out.below).mono ?_; rintro e w1 ⟨rfl, hb1⟩; have H1 := Lib.hid (H0.out.step hb1); obtain ⟨a0, a1, a2, a3, a4, a5, a6, a7, a8, a9, a10, a11, _⟩ := H1.out.a.tw; obtain ⟨e0, e1, e2, e3, e4, e5, e6, e7, e8, e9, e10, e11, _⟩ := H1.out.b.tw; clear hb1)
          | (go_at_call 23; refine (HE.out _ H1.out.below).mono ?_; rintro e w2 ⟨rfl, hb2⟩; have H2 := Lib.hid (H1.out.step hb2); clear hb2))
        go_ret
        exact ⟨false, rfl, ⟨(fun h => by cases h), fun h => absurd h HN.out⟩, H0.out.below⟩
    · have z1 : (aY.toList == bY.toList) = false := by simpa using q1
      have HN := Lib.hid (show ¬ SS from fun hs => q1 (by have h := HSS.out.1 hs; exact h.2.1))
      clear q1
      go_enter Try.func10, Try.ntmps10
      go_wp2_with (first
        | (go_at_call 22; refine (HV.out _ H0.out.below).mono ?_; rintro e w1 ⟨rfl, hb1⟩; have H1 := Lib.hid (H0.out.step hb1); obtain ⟨a0, a1, a2, a3, a4, a5, a6, a7, a8, a9, a10, a11, _⟩ := H1.out.a.tw; obtain ⟨e0, e1, e2, e3, e4, e5, e6, e7, e8, e9, e10, e11, _⟩ := H1.out.b.tw; clear hb1)
        | (go_at_call 23; refine (HE.out _ H1.out.below).mono ?_; rintro e w2 ⟨rfl, hb2⟩; have H2 := Lib.hid (H1.out.step hb2); clear hb2))
      go_ret
      exact ⟨false, rfl, ⟨(fun h => by cases h), fun h => absurd h HN.out⟩, H0.out.below⟩
  · have z0 : (ak == bk) = false := by simpa using q0
    have HN := Lib.hid (show ¬ SS from fun hs => q0 (by have h := HSS.out.1 hs; exact h.1))
    clear q0
    go_enter Try.func10, Try.ntmps10
    go_wp2_with (first
      | (go_at_call 22; refine (HV.out _ H0.out.below).mono ?_; rintro e w1 ⟨rfl, hb1⟩; have H1 := Lib.hid (H0.out.step hb1); obtain ⟨a0, a1, a2, a3, a4, a5, a6, a7, a8, a9, a10, a11, _⟩ := H1.out.a.tw; obtain ⟨e0, e1, e2, e3, e4, e5, e6, e7, e8, e9, e10, e11, _⟩ := H1.out.b.tw; clear hb1)
      | (go_at_call 23; refine (HE.out _ H1.out.below).mono ?_; rintro e w2 ⟨rfl, hb2⟩; have H2 := Lib.hid (H1.out.step hb2); clear hb2))
    go_ret
    exact ⟨false, rfl, ⟨(fun h => by cases h), fun h => absurd h HN.out⟩, H0.out.below⟩

/-- Which fields of a kind say something. -/
def saysB (k : Int) : ByteArray := if k = 1 then ⟨#[78]⟩ else if k = 2 then ⟨#[75, 86]⟩ else if k = 3 then ⟨#[75]⟩ else if k = 4 then ⟨#[73, 86]⟩ else if k = 5 then ⟨#[73]⟩ else if k = 6 then ⟨#[73, 86]⟩ else if k = 7 then ⟨#[73, 74]⟩ else if k = 8 then ⟨#[73, 83]⟩ else if k = 9 then ⟨#[73, 78]⟩ else ⟨#[]⟩
def inB (s : ByteArray) (c : Int) : Bool := s.data.toList.any fun b => decide ((b.toNat : Int) = c)
def InRel (s : ByteArray) (c : Int) (w : World) (i : Value) (wr : World) : Prop := ∃ k : Nat, i = .int .i64 k ∧ k ≤ s.size ∧ (∀ b ∈ s.data.toList.take k, (b.toNat : Int) ≠ c) ∧ wr = w
end Go.Proofs.Ythnljaheplhbkaa
