/- far, comp whole, both Dos of one list of numbers. -/
import Derived.Test.YtlgggalbngpelaaSeqS
import Derived.Test.YtlgggalbngpelaaSeqI
namespace Go.Proofs.Ytlgggalbngpelaa
open Go Go.RowKit
set_option linter.unusedVariables false
set_option linter.unusedSimpArgs false

def farB (i j : Int) : Bool := decide (1073741824 < i) || decide (i < -1073741824) || decide (1073741824 < j) || decide (j < -1073741824)
set_option maxRecDepth 100000 in
set_option maxHeartbeats 4000000 in
theorem far_any (k i j n : Int) (w : World) : Calls Try.prog 12 #[.agg #[.int .u8 k, .int .i64 i, .int .i64 j, .int .i64 n]] w fun e w' => e = .returned (.bool (farB i j)) ∧ Below w.heap.size w w' := by
  have HB := Lib.hid (below_alloc w (.cells #[.int .u8 k, .int .i64 i, .int .i64 j, .int .i64 n] 35))
  cases h1 : decide (1073741824 < i)
  · cases h2 : decide (i < -1073741824)
    · cases h3 : decide (1073741824 < j)
      · cases h4 : decide (j < -1073741824)
        · rw [show farB i j = false by simp [farB, h1, h2, h3, h4]]
          (go_enter Try.func12, Try.ntmps12; go_wp2; go_ret; exact ⟨rfl, HB.out⟩)
        · rw [show farB i j = true by simp [farB, h1, h2, h3, h4]]
          (go_enter Try.func12, Try.ntmps12; go_wp2; go_ret; exact ⟨rfl, HB.out⟩)
      · rw [show farB i j = true by simp [farB, h1, h2, h3]]
        (go_enter Try.func12, Try.ntmps12; go_wp2; go_ret; exact ⟨rfl, HB.out⟩)
    · rw [show farB i j = true by simp [farB, h1, h2]]
      (go_enter Try.func12, Try.ntmps12; go_wp2; go_ret; exact ⟨rfl, HB.out⟩)
  · rw [show farB i j = true by simp [farB, h1]]
    (go_enter Try.func12, Try.ntmps12; go_wp2; go_ret; exact ⟨rfl, HB.out⟩)
theorem comp_any (k i j n : Int) (hk : 0 ≤ k ∧ k ≤ 255) : ∃ (kk : Nat) (jj aa nn : Int), (kk = 4 ∨ kk = 5 ∨ kk = 6 ∨ kk = 7) ∧ (kk ≠ 7 → jj = 0) ∧ ∀ w, Calls Try.prog 14 #[.agg #[.int .u8 k, .int .i64 i, .int .i64 j, .int .i64 n]] w fun e w' => e = .returned (.agg #[.int .u8 kk, .slice none 0 0, .string ⟨#[]⟩, .int .i64 i, .int .i64 jj, .int .i64 0, .int .u8 aa, .int .i64 nn, .string ⟨#[]⟩, .slice none 0 0, .slice none 0 0, .string ⟨#[]⟩]) ∧ Below w.heap.size w w' := by
  rcases (show 4 + k % 4 = 4 ∨ 4 + k % 4 = 5 ∨ 4 + k % 4 = 6 ∨ 4 + k % 4 = 7 by omega) with h | h | h | h
  · exact ⟨4, 0, 2, n, .inl rfl, fun _ => rfl, fun w => comp_4 k i j n w hk h⟩
  · exact ⟨5, 0, 0, 0, .inr (.inl rfl), fun _ => rfl, fun w => comp_5 k i j n w hk h⟩
  · exact ⟨6, 0, 2, n, .inr (.inr (.inl rfl)), fun _ => rfl, fun w => comp_6 k i j n w hk h⟩
  · exact ⟨7, j, 0, 0, .inr (.inr (.inr rfl)), fun h => absurd rfl h, fun w => comp_7 k i j n w hk h⟩
/-- A list and how it ended. -/
def TwoOut (l : List GV) (r : Value) (w : World) (e : Ending) (w' : World) : Prop := ∃ A c, e = .returned (.tuple #[.slice A l.length c, r]) ∧ ListIn l A c w' ∧ Below w.heap.size w w'
theorem chk_bound (m : Int) (k : Nat) (i j : Int) : 0 ≤ chk m k i j ∧ chk m k i j ≤ 32 := by
  unfold chk
  (repeat' split) <;> omega
theorem nil_in (w : World) : ListIn [] none 0 w := .inl ⟨rfl, rfl⟩
theorem chk_two {m k : Nat} {i j : Int} (hk : k = 4 ∨ k = 5 ∨ k = 6 ∨ k = 7) (h : chk m k i j = 0) : ∃ i' : Nat, i = i' ∧ ((k = 4 ∧ i' ≤ m) ∨ ((k = 5 ∨ k = 6) ∧ i' < m) ∨ (k = 7 ∧ i' < m ∧ ∃ j' : Nat, j = j' ∧ j' < m)) := by
  rcases hk with rfl | rfl | rfl | rfl <;> simp [chk, withinB] at h
  · exact ⟨i.toNat, by omega, .inl ⟨rfl, by omega⟩⟩
  · exact ⟨i.toNat, by omega, .inr (.inl ⟨.inl rfl, by omega⟩)⟩
  · exact ⟨i.toNat, by omega, .inr (.inl ⟨.inr rfl, by omega⟩)⟩
  · exact ⟨i.toNat, by omega, .inr (.inr ⟨rfl, by omega, j.toNat, by omega, by omega⟩)⟩
theorem plainly_nums (m : Nat) : Plainly (numsG m) := fun g hg => by
  obtain ⟨i, _, rfl⟩ := List.mem_map.1 hg
  exact ⟨2, 1000 + (i : Int), rfl⟩
theorem do_both (m k : Nat) (i j a v : Int) (hm : m ≤ 40) (hk : k = 4 ∨ k = 5 ∨ k = 6 ∨ k = 7) (hj : k ≠ 7 → j = 0) : ∃ (r : Int) (lz : List GV), 0 ≤ r ∧ r ≤ 32 ∧ GV.weights lz ≤ 900000000 ∧
    (∀ W A c, ListIn (numsG m) A c W → Calls Try.prog 15 #[.slice A m c, .agg #[.int .u8 k, .slice none 0 0, .string ⟨#[]⟩, .int .i64 i, .int .i64 j, .int .i64 0, .int .u8 a, .int .i64 v, .string ⟨#[]⟩, .slice none 0 0, .slice none 0 0, .string ⟨#[]⟩]] W (TwoOut lz (.int .u16 r) W)) ∧
    (∀ W A c, ListIn (numsG m) A c W → Calls Try.prog 16 #[.slice A m c, .agg #[.int .u8 k, .slice none 0 0, .string ⟨#[]⟩, .int .i64 i, .int .i64 j, .int .i64 0, .int .u8 a, .int .i64 v, .string ⟨#[]⟩, .slice none 0 0, .slice none 0 0, .string ⟨#[]⟩]] W (TwoOut lz (.int .i64 r) W)) := by
  have hlen := nums_len m
  have hw0 : GV.weights (numsG m) ≤ 900000000 := by have := nums_weight _ (nums_light m); omega
  by_cases h : chk m k i j = 0
  · obtain ⟨i', rfl, hi⟩ := chk_two hk h
    have key : ∀ (j' : Nat), j = j' → okC (numsG m).length (⟨k, i', j', flat a v⟩ : Cm GV) → (∀ W A c, ListIn (numsG m) A c W → Calls Try.prog 16 #[.slice A (numsG m).length c, .agg #[.int .u8 k, .slice none 0 0, .string ⟨#[]⟩, .int .i64 i', .int .i64 j', .int .i64 0, .int .u8 a, .int .i64 v, .string ⟨#[]⟩, .slice none 0 0, .slice none 0 0, .string ⟨#[]⟩]] W (RDo (doL (numsG m) ⟨k, i', j', flat a v⟩) W)) → ∃ (r : Int) (lz : List GV), 0 ≤ r ∧ r ≤ 32 ∧ GV.weights lz ≤ 900000000 ∧
        (∀ W A c, ListIn (numsG m) A c W → Calls Try.prog 15 #[.slice A m c, .agg #[.int .u8 k, .slice none 0 0, .string ⟨#[]⟩, .int .i64 i', .int .i64 j, .int .i64 0, .int .u8 a, .int .i64 v, .string ⟨#[]⟩, .slice none 0 0, .slice none 0 0, .string ⟨#[]⟩]] W (TwoOut lz (.int .u16 r) W)) ∧
        (∀ W A c, ListIn (numsG m) A c W → Calls Try.prog 16 #[.slice A m c, .agg #[.int .u8 k, .slice none 0 0, .string ⟨#[]⟩, .int .i64 i', .int .i64 j, .int .i64 0, .int .u8 a, .int .i64 v, .string ⟨#[]⟩, .slice none 0 0, .slice none 0 0, .string ⟨#[]⟩]] W (TwoOut lz (.int .i64 r) W)) := fun j' hj' hok hr => by
      subst hj'
      have hwz := nums_weight _ (do_light (c := ⟨k, i', j', flat a v⟩) (nums_light m) (by rw [flat_weight]; omega))
      have hlz : (doL (numsG m) ⟨k, i', j', flat a v⟩).length ≤ 1000 := by rw [do_len hok]; split <;> (try split) <;> omega
      refine ⟨0, doL (numsG m) ⟨k, i', j', flat a v⟩, by omega, by omega, by omega, fun W A c hL => ?_, fun W A c hL => ?_⟩
      · have := do_flat A c (numsG m) k i' j' a v W hL hok (by omega) (by omega)
        rw [hlen] at this
        exact this.mono fun e w' ⟨A', c', he, hl, hb⟩ => ⟨A', c', he, hl.keep (From.refl _ _) (fun _ _ _ => trivial), hb⟩
      · have := hr W A c hL
        rw [hlen] at this
        exact this
    rcases hi with ⟨hk4, hi⟩ | ⟨hk5 | hk6, hi⟩ | ⟨hk7, hi, j', hj', hj2⟩
    · refine key 0 (hj (by omega)) (.inl ⟨hk4, by rw [hlen]; exact hi⟩) (fun W A c hL => ?_)
      have := rdo_ins A c (numsG m) k i' 0 a v W hL hk4 (by rw [hlen]; exact hi) (by omega) hw0
      rw [do_ins (c := ⟨k, i', 0, flat a v⟩) hk4]
      exact this
    · refine key 0 (hj (by omega)) (.inr (.inl ⟨.inl hk5, by rw [hlen]; exact hi⟩)) (fun W A c hL => ?_)
      have := rdo_rem A c (numsG m) k i' 0 a v W hL hk5 (by rw [hlen]; exact hi) (by omega) hw0
      rw [do_rem (c := ⟨k, i', 0, flat a v⟩) hk5]
      exact this
    · refine key 0 (hj (by omega)) (.inr (.inl ⟨.inr hk6, by rw [hlen]; exact hi⟩)) (fun W A c hL => ?_)
      have := rdo_set A c (numsG m) k i' 0 a v W hL hk6 (by rw [hlen]; exact hi) (by omega) hw0 (plainly_nums m)
      rw [do_set' (c := ⟨k, i', 0, flat a v⟩) hk6 (by rw [hlen]; exact hi)]
      exact this
    · refine key j' hj' (.inr (.inr ⟨hk7, by rw [hlen]; exact hi, by rw [hlen]; exact hj2⟩)) (fun W A c hL => ?_)
      have := rdo_move A c (numsG m) k i' j' a v W hL hk7 (by rw [hlen]; exact hi) (by rw [hlen]; exact hj2) (by omega) hw0
      rw [do_move (c := ⟨k, i', j', flat a v⟩) hk7 (by rw [hlen]; exact hi)]
      exact this
  · have hb := chk_bound m k i j
    exact ⟨chk m k i j, [], hb.1, hb.2, by simp [GV.weights], fun W A c hL => (seq_Do_no A m c k i j none none none 0 0 0 0 0 0 ⟨#[]⟩ ⟨#[]⟩ ⟨#[]⟩ 0 a v W h).mono fun e w' ⟨he, hb⟩ => ⟨none, 0, he, nil_in _, hb⟩,
      fun W A c hL => (rdo_no A m c k i j a v W h).mono fun e w' ⟨he, hb⟩ => ⟨none, 0, he, nil_in _, hb⟩⟩
end Go.Proofs.Ytlgggalbngpelaa
