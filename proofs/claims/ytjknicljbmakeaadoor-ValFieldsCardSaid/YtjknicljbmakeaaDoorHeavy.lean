/- heavy: what is looked at is of 200 pieces and 3000 bytes at most. -/
import Derived.Test.YtjknicljbmakeaaDoorGhost
import Derived.WalkKit
import Derived.WalkSpells
import Derived.WalkLawsBesides
import Derived.Lib.Hide
namespace Go.Proofs.YtjknicljbmakeaaDoor
open Go Go.RowKit

def tot : List GTok → Nat
  | [] => 0
  | t :: r => t.s.size + 1 + tot r
theorem tot_snoc (l : List GTok) (t : GTok) : tot (l ++ [t]) = tot l + (t.s.size + 1) := by
  induction l with
  | nil => simp [tot]
  | cons x r ih => simp [tot, ih]; omega
theorem tot_take (ts : List GTok) (k : Nat) (h : k < ts.length) : tot (ts.take (k + 1)) = tot (ts.take k) + ((ts[k]).s.size + 1) := by
  rw [List.take_succ_eq_append_getElem h, tot_snoc]
theorem tot_bound (ts : List GTok) (M : Nat) (h : ∀ t ∈ ts, t.s.size ≤ M) : tot ts ≤ ts.length * (M + 1) := by
  induction ts with
  | nil => simp [tot]
  | cons x r ih =>
    have h1 := h x (by simp)
    have h2 := ih (fun t ht => h t (by simp [ht]))
    simp only [tot, List.length_cons, Nat.succ_mul]
    omega

def HeavyPost (ts : List GTok) (w : World) (e : Ending) (w' : World) : Prop :=
  ∃ b, e = .returned (.bool b) ∧ w = w' ∧ (b = false → ts.length ≤ 200 ∧ tot ts ≤ 3000)

def HeavyRel (ts : List GTok) (n i : Value) : Prop :=
  ∃ (k : Nat) (z : Int), k ≤ ts.length ∧ i = .int .i64 k ∧ n = .int .i64 z ∧ (ts.length ≤ 200 → z = tot (ts.take k))

set_option maxHeartbeats 1000000 in
theorem heavy_small (hi : Nat) (A : Option Addr) (cap : Nat) (ts : List GTok) (w : World) (hT : Toks hi w A ts) (h2 : ts.length ≤ 200) (hs : ∀ t ∈ ts, t.s.size ≤ 140737488351232) :
    Calls Tryd.prog 16 #[.slice A ts.length cap] w (HeavyPost ts w) := by
  go_enter Tryd.func16, Tryd.ntmps16
  go_wp2
  go_loop [3, 4] (HeavyRel ts) (fun _ i => ts.length - (intOf i).toNat)
  case atStart => exact ⟨0, 0, Nat.zero_le _, rfl, rfl, fun _ => by simp [tot]⟩
  case round =>
    obtain ⟨k, z, hk, rfl, rfl, hz⟩ := hrel
    have hz' := hz h2
    clear hz
    by_cases hlt : k < ts.length
    · obtain ⟨⟨ab, ao, _⟩, rfl, rfl, hl, hc⟩ := hT (by intro e; simp [e] at hlt)
      have hc2 := (hc k ts[k] (List.getElem?_eq_getElem hlt)).2.2.1
      simp only at hc2
      have hsz := hs ts[k] (List.getElem_mem hlt)
      have HT := Lib.hid (tot_take ts k hlt)
      have hb : tot (ts.take k) ≤ 200 * 140737488351233 := by
        refine Nat.le_trans (tot_bound (ts.take k) 140737488351232 fun t ht => hs t (List.mem_of_mem_take ht)) ?_
        have : (ts.take k).length ≤ 200 := by simp; omega
        exact Nat.mul_le_mul_right _ this
      have HZ := Lib.hid hz'
      have hz1 : 0 ≤ z := by omega
      have hz2 : z ≤ 28147497670246600 := by omega
      clear hz' hs hc hb hl
      generalize ts[k].s = sk at *
      go_wp2
      go_round
      case rel => exact ⟨k + 1, _, by omega, by go_num, rfl, fun _ => by rw [HT.out, HZ.out]; push_cast; omega⟩
      case measure => simp [intOf]; omega
    · have hk' : k = ts.length := by omega
      have ht : tot (ts.take k) = tot ts := by rw [List.take_of_length_le (by omega)]
      have HZ := Lib.hid hz'
      have HT := Lib.hid ht
      clear hz' ht
      have HK := Lib.hid hk'
      clear hk'
      go_wp2
      all_goals go_ret
      all_goals exact ⟨_, rfl, rfl, fun hb => by
        simp only [Bool.or_eq_false_iff, decide_eq_false_iff_not] at hb
        have e1 := HZ.out
        rw [HT.out] at e1
        omega⟩

set_option maxHeartbeats 1000000 in
theorem heavy_great (hi : Nat) (A : Option Addr) (cap : Nat) (ts : List GTok) (w : World) (hT : Toks hi w A ts) (h2 : 200 < ts.length) (hm : ts.length ≤ maxLen) (hs : ∀ t ∈ ts, t.s.size ≤ 140737488351232) :
    Calls Tryd.prog 16 #[.slice A ts.length cap] w (HeavyPost ts w) := by
  unfold maxLen at hm
  go_enter Tryd.func16, Tryd.ntmps16
  go_wp2
  go_loop [3, 4] (HeavyRel ts) (fun _ i => ts.length - (intOf i).toNat)
  case atStart => exact ⟨0, 0, Nat.zero_le _, rfl, rfl, fun _ => by simp [tot]⟩
  case round =>
    obtain ⟨k, z, hk, rfl, rfl, _⟩ := hrel
    by_cases hlt : k < ts.length
    · obtain ⟨⟨ab, ao, _⟩, rfl, rfl, hl, hc⟩ := hT (by intro e; simp [e] at hlt)
      have hc2 := (hc k ts[k] (List.getElem?_eq_getElem hlt)).2.2.1
      simp only at hc2
      have hsz := hs ts[k] (List.getElem_mem hlt)
      clear hs hc hl
      generalize ts[k].s = sk at *
      go_wp2
      go_round
      case rel => exact ⟨k + 1, _, by omega, by go_num, rfl, fun h => absurd h (by omega)⟩
      case measure => simp [intOf]; omega
    · go_wp2
      all_goals go_ret
      all_goals exact ⟨_, rfl, rfl, fun hb => by simp at hb <;> omega⟩

theorem heavy_any (hi : Nat) (A : Option Addr) (cap : Nat) (ts : List GTok) (w : World) (hT : Toks hi w A ts) (hm : ts.length ≤ maxLen) (hs : ∀ t ∈ ts, t.s.size ≤ 140737488351232) :
    Calls Tryd.prog 16 #[.slice A ts.length cap] w (HeavyPost ts w) := by
  by_cases h2 : ts.length ≤ 200
  · exact heavy_small hi A cap ts w hT h2 hs
  · exact heavy_great hi A cap ts w hT (by omega) hm hs
end Go.Proofs.YtjknicljbmakeaaDoor
