/- Components in a row: one, and what Turn answers behind it. -/
import Derived.Test.YtlgggalbngpelaaSeqI
import Derived.Deep.DeepCutAuto
namespace Go.Proofs.Ytlgggalbngpelaa
open Go Go.RowKit
set_option linter.unusedVariables false
set_option linter.unusedSimpArgs false

theorem infoComp : (Try.prog.info? 29).map (fun i => (i.zero, i.size, i.bytes)) = some (some (.agg #[.int .u8 0, .slice none 0 0, .string ⟨#[]⟩, .int .i64 0, .int .i64 0, .int .i64 0, .int .u8 0, .int .i64 0, .string ⟨#[]⟩, .slice none 0 0, .slice none 0 0, .string ⟨#[]⟩]), 12, 168) := by kernel_rfl
/-- A component's cells. -/
def chunkC (c : Cm GV) (AL AO : Option Addr) (cL cO : Nat) : List Value := [.int .u8 c.k, .slice none 0 0, .string ⟨#[]⟩, .int .i64 c.i, .int .i64 c.j, .int .i64 0, .int .u8 c.v.kind, .int .i64 c.v.num, .string c.v.str, .slice AL c.v.items.length cL, .slice AO c.v.vals.length cO, .string ⟨#[]⟩]
def RowC (W : World) : List (Cm GV) → List Value → Prop
  | [], xs => xs = []
  | c :: r, xs => ∃ AL AO cL cO ys, xs = chunkC c AL AO cL cO ++ ys ∧ Vl W c.v AL AO cL cO ∧ RowC W r ys
theorem RowC.len {W : World} : ∀ {cs : List (Cm GV)} {xs : List Value}, RowC W cs xs → xs.length = cs.length * 12
  | [], _, h => by rw [show _ = ([] : List Value) from h]; rfl
  | _ :: _, _, ⟨_, _, _, _, ys, e, _, hr⟩ => by rw [e, List.length_append, hr.len]; simp [chunkC]; omega
theorem RowC.one {W : World} : ∀ {cs : List (Cm GV)} {xs : List Value}, RowC W cs xs → ∀ u ∈ xs, u.oneCell' = true
  | [], _, h, u, hu => by rw [show _ = ([] : List Value) from h] at hu; cases hu
  | _ :: _, _, ⟨_, _, _, _, ys, e, _, hr⟩, u, hu => by
    rw [e] at hu
    rcases List.mem_append.1 hu with h | h
    · simp only [chunkC, List.mem_cons, List.not_mem_nil, or_false] at h
      rcases h with rfl | rfl | rfl | rfl | rfl | rfl | rfl | rfl | rfl | rfl | rfl | rfl <;> rfl
    · exact hr.one u h
theorem RowC.later {W W' : World} (hb : Below W.heap.size W W') : ∀ {cs : List (Cm GV)} {xs : List Value}, RowC W cs xs → RowC W' cs xs
  | [], _, h => h
  | _ :: _, _, ⟨AL, AO, cL, cO, ys, e, hv, hr⟩ => ⟨AL, AO, cL, cO, ys, e, hv.later hb, hr.later hb⟩
theorem RowC.app {W : World} : ∀ {cs : List (Cm GV)} {xs : List Value} {cs' : List (Cm GV)} {xs' : List Value}, RowC W cs xs → RowC W cs' xs' → RowC W (cs ++ cs') (xs ++ xs')
  | [], _, _, _, h, h' => by rw [show _ = ([] : List Value) from h]; exact h'
  | _ :: _, _, _, _, ⟨AL, AO, cL, cO, ys, e, hv, hr⟩, h' => ⟨AL, AO, cL, cO, ys ++ _, by rw [e, List.append_assoc], hv, RowC.app hr h'⟩
theorem RowC.at {W : World} {b : Nat} : ∀ {cs : List (Cm GV)} {xs : List Value} {o : Nat}, RowC W cs xs → (∀ j u, xs[j]? = some u → W.cell? ⟨b, o + j, none⟩ = some u) → ∀ k c, cs[k]? = some c → CompAt W b (o + k * 12) c
  | [], _, _, _, _, _, _, hc => by simp at hc
  | x :: r, xs, o, ⟨AL, AO, cL, cO, ys, e, hv, hr⟩, h, 0, c, hc => by
    simp at hc
    subst hc
    have hq : ∀ q u, (chunkC x AL AO cL cO)[q]? = some u → W.cell? ⟨b, o + 0 * 12 + q, none⟩ = some u := fun q u hu => by
      have := h q u (by rw [e, List.getElem?_append_left (by simp [List.getElem?_eq_some_iff] at hu; exact hu.1)]; exact hu)
      simpa using this
    exact ⟨AL, AO, cL, cO, ⟨hq 0 _ rfl, hq 1 _ rfl, hq 2 _ rfl, hq 3 _ rfl, hq 4 _ rfl, hq 5 _ rfl, hq 6 _ rfl, hq 7 _ rfl, hq 8 _ rfl, hq 9 _ rfl, hq 10 _ rfl, hq 11 _ rfl⟩, hv⟩
  | x :: r, xs, o, ⟨AL, AO, cL, cO, ys, e, hv, hr⟩, h, k + 1, c, hc => by
    have := RowC.at (o := o + 12) hr (fun j u hj => by
      have := h (j + 12) u (by rw [e, List.getElem?_append_right (by simp [chunkC])]; simpa [chunkC] using hj)
      rwa [show o + 12 + j = o + (j + 12) by omega]) k c (by simpa using hc)
    rwa [show o + 12 + k * 12 = o + (k + 1) * 12 by omega] at this
/-- What Turn answers, as a row. -/
def TurnL (cs : List (Cm GV)) (w : World) (e : Ending) (w' : World) : Prop := ∃ (A : Option Addr) (news : List Value), e = .returned (.slice A cs.length cs.length) ∧ (A = none → cs.length = 0) ∧ (∀ ad, A = some ad → ∀ j u, news[j]? = some u → w'.cell? (ad.add j) = some u) ∧ RowC w' cs news ∧ Below w.heap.size w w'
theorem turn_list (k i j k' i' j' : Nat) (a n a' n' : Int) (left : Bool) (w : World) (hi : i ≤ 4294967296) (hj : j ≤ 4294967296) (hi' : i' ≤ 4294967296) (hj' : j' ≤ 4294967296) :
    Calls Try.prog 10 #[.agg #[.int .u8 k, .slice none 0 0, .string ⟨#[]⟩, .int .i64 i, .int .i64 j, .int .i64 0, .int .u8 a, .int .i64 n, .string ⟨#[]⟩, .slice none 0 0, .slice none 0 0, .string ⟨#[]⟩], .agg #[.int .u8 k', .slice none 0 0, .string ⟨#[]⟩, .int .i64 i', .int .i64 j', .int .i64 0, .int .u8 a', .int .i64 n', .string ⟨#[]⟩, .slice none 0 0, .slice none 0 0, .string ⟨#[]⟩], .bool left] w
      (TurnL (turnG ⟨k, i, j, flat a n⟩ ⟨k', i', j', flat a' n'⟩ left).toList w) :=
  (turn_flat k i j k' i' j' a n a' n' left w hi hj hi' hj').mono fun e w' ho => by
    rcases ho with ⟨h0, he, hb⟩ | ⟨c, h0, b, AL, AO, cL, cO, he, hbb, hw, ⟨hl, hO⟩, hbel⟩
    · rw [h0]
      exact ⟨none, [], he, fun _ => rfl, (fun ad h => by cases h), rfl, hb⟩
    · rw [h0]
      refine ⟨some ⟨b, 0, none⟩, chunkC c AL AO cL cO, he, (fun h => by cases h), (fun ad h j u hj => ?_), ⟨AL, AO, cL, cO, [], by simp, ⟨hl.keep (From.refl _ _) (fun _ _ _ => trivial), hO.keep (From.refl _ _) (fun _ _ _ => trivial)⟩, rfl⟩, hbel⟩
      cases h
      have e2 : (⟨b, 0, none⟩ : Addr).add j = ⟨b, j, none⟩ := by unfold Addr.add; split <;> simp_all
      rw [e2]
      exact (hw.cell j).trans (by simpa [chunkC] using hj)
theorem own_new (W : World) (cs : List Value) (h : cs.length = 12) : (W.alloc (.cells cs.toArray 29)).ownsRow W.heap.size 29 12 (.slice (some ⟨W.heap.size, 0, none⟩) 1 1) 1 cs :=
  ⟨by simpa using h, .inr ⟨W.heap.size, 1, cs.toArray, rfl, Nat.le_refl _, heap_alloc_new W _, Nat.le_refl 1, by decide, by simpa using h, by have e : cs.take (1 * 12) = cs := List.take_of_length_le (by omega); simpa using e⟩⟩
/-- A row of the call's own that is not empty: where it lies. -/
theorem ownc_at {W : World} {base n : Nat} {v : Value} {xs : List Value} (h : W.ownsRow base 29 12 v (n + 1) xs) : ∃ g cap, v = .slice (some ⟨g, 0, none⟩) (n + 1) cap ∧ n + 1 ≤ cap ∧ cap ≤ maxLen ∧ ∀ j u, xs[j]? = some u → W.cell? ⟨g, 0 + j, none⟩ = some u := by
  rcases h.2 with ⟨_, h0⟩ | ⟨g, cap, cur, rfl, hbg, hg, hnc, hcm, hcs, ht⟩
  · omega
  · refine ⟨g, cap, rfl, hnc, hcm, fun j u hj => ?_⟩
    have := h.cells (g := g) rfl j u hj
    have e2 : (⟨g, 0, none⟩ : Addr).add j = ⟨g, 0 + j, none⟩ := by unfold Addr.add; split <;> simp_all
    rwa [e2] at this
theorem kind_grown {W W' : World} {base n b : Nat} {v : Value} {xs : List Value} {ok : Nat → Prop} {e : TypeId} (ho : W.ownsRow base 29 12 v n xs) (hg : W.grownBy W' v.ownBlock) (he : e ≠ 29) (hK : Kind W ok b e) : Kind W' ok b e := by
  obtain ⟨h1, cur, hc⟩ := hK
  have hlt : b < W.heap.size := (Array.getElem?_eq_some_iff.1 hc).1
  refine ⟨h1, cur, (hg.block b hlt (fun h => ?_)).trans hc⟩
  rcases ho.2 with ⟨rfl, _⟩ | ⟨g, cap, cur', rfl, _, hg', _⟩
  · cases h
  · simp only [Value.ownBlock, Option.some.injEq] at h
    subst h
    rw [hc] at hg'
    simp only [Option.some.injEq, Obj.cells.injEq] at hg'
    exact he hg'.2.1
theorem vl_grown {W W' : World} {base n : Nat} {v : Value} {xs : List Value} {a m : Int} {AL AO : Option Addr} {cL cO : Nat} (h : Vl W (flat a m) AL AO cL cO) (ho : W.ownsRow base 29 12 v n xs) (hg : W.grownBy W' v.ownBlock) : Vl W' (flat a m) AL AO cL cO := by
  obtain ⟨hl, hk, hO⟩ := h
  refine ⟨?_, hk, ?_⟩
  · rcases hl with hl | ⟨b', o', c', e, h1, h2, hK, hE⟩
    · exact .inl hl
    · exact .inr ⟨b', o', c', e, h1, h2, kind_grown ho hg (by decide) hK, trivial⟩
  · rcases hO with hO | ⟨b', o', c', e, h1, h2, hK, hks, hE⟩
    · exact .inl hO
    · exact .inr ⟨b', o', c', e, h1, h2, kind_grown ho hg (by decide) hK, trivial, trivial⟩
theorem comps_grown {W W' : World} {base n : Nat} {v : Value} {xs : List Value} (ho : W.ownsRow base 29 12 v n xs) (hg : W.grownBy W' v.ownBlock) : ∀ {cs : List (Cm GV)} {news : List Value}, (∀ c ∈ cs, ∃ a m, c.v = flat a m) → RowC W cs news → RowC W' cs news
  | [], _, _, h => h
  | c :: r, _, hf, ⟨AL, AO, cL, cO, ys, e, hv, hr⟩ => by
    obtain ⟨a, m, h1⟩ := hf c (List.mem_cons_self ..)
    refine ⟨AL, AO, cL, cO, ys, e, ?_, comps_grown ho hg (fun x hx => hf x (List.mem_cons_of_mem _ hx)) hr⟩
    rw [h1] at hv ⊢
    exact vl_grown hv ho hg
structure Cd12 (W : World) (b : Nat) (a0 a1 a2 a3 a4 a5 a6 a7 a8 a9 a10 a11 : Value) : Prop where
  c0 : W.cell? ⟨b, 0, none⟩ = some a0
  c1 : W.cell? ⟨b, 1, none⟩ = some a1
  c2 : W.cell? ⟨b, 2, none⟩ = some a2
  c3 : W.cell? ⟨b, 3, none⟩ = some a3
  c4 : W.cell? ⟨b, 4, none⟩ = some a4
  c5 : W.cell? ⟨b, 5, none⟩ = some a5
  c6 : W.cell? ⟨b, 6, none⟩ = some a6
  c7 : W.cell? ⟨b, 7, none⟩ = some a7
  c8 : W.cell? ⟨b, 8, none⟩ = some a8
  c9 : W.cell? ⟨b, 9, none⟩ = some a9
  c10 : W.cell? ⟨b, 10, none⟩ = some a10
  c11 : W.cell? ⟨b, 11, none⟩ = some a11
theorem Whole.cd {W : World} {b : Nat} {t : TypeId} {a0 a1 a2 a3 a4 a5 a6 a7 a8 a9 a10 a11 : Value} (h : Whole W b t #[a0, a1, a2, a3, a4, a5, a6, a7, a8, a9, a10, a11]) : Cd12 W b a0 a1 a2 a3 a4 a5 a6 a7 a8 a9 a10 a11 :=
  ⟨h.cell 0, h.cell 1, h.cell 2, h.cell 3, h.cell 4, h.cell 5, h.cell 6, h.cell 7, h.cell 8, h.cell 9, h.cell 10, h.cell 11⟩
/-- Behind such a line. -/
def CutD (w : World) (l : List GV) (t8 t9 : Value) (W : World) : Prop := ∃ A c, t8 = .slice A l.length c ∧ t9 = .bool true ∧ ListIn l A c W ∧ Below w.heap.size w W
theorem run_turn {l : List GV} {x : Cm GV} {r : Option (Cm GV)} : runL l (x :: r.toList) = doLs (doL l x) r := by
  cases r <;> simp [runL, doLs]
theorem okAll_turn {l : List GV} {x : Cm GV} {r : Option (Cm GV)} (h : Light l) (hl : l.length ≤ 1000) (hx : okC l.length x) (hxv : x.v.weight ≤ 1) (hr : okCs (doL l x).length r) (hrv : ∀ c, r = some c → c.v.weight ≤ 1) : okAll l (x :: r.toList) := by
  have l1 := do_len hx
  have b1 : (doL l x).length ≤ 1001 := by rw [l1]; split <;> (try split) <;> omega
  have w1 := nums_weight _ (do_light h hxv)
  cases r with
  | none => exact ⟨hx, by omega, by omega, trivial⟩
  | some c => exact okAll_two h hl hx hr hxv (hrv c rfl)
theorem turn_v {a b : Cm GV} {left : Bool} {c : Cm GV} (h : turnG a b left = some c) : c.v = a.v := by
  unfold turnG at h
  split at h
  · cases h; rfl
  · split at h
    · cases h; rfl
    · split at h
      · split at h
        · cases h
        · cases h; split <;> rfl
      · cases h; rfl
end Go.Proofs.Ytlgggalbngpelaa
