/- heavy, of pieces and a path: what is looked at. -/
import Derived.Test.YtbmfjchdmicdoaaDoorPathG
import Derived.Test.YtbmfjchdmicdoaaDoorBaseA
import Derived.WalkKit
import Derived.WalkSpells
import Derived.WalkLawsBesides
import Derived.Lib.Hide
namespace Go.Proofs.YtbmfjchdmicdoaaDoor
open Go Go.RowKit

def ptot : List GStep → Nat
  | [] => 0
  | t :: r => t.key.size + ptot r
theorem ptot_snoc (l : List GStep) (t : GStep) : ptot (l ++ [t]) = ptot l + t.key.size := by
  induction l with
  | nil => simp [ptot]
  | cons x r ih => simp [ptot, ih]; omega
theorem ptot_take (ts : List GStep) (k : Nat) (h : k < ts.length) : ptot (ts.take (k + 1)) = ptot (ts.take k) + (ts[k]).key.size := by
  rw [List.take_succ_eq_append_getElem h, ptot_snoc]
theorem ptot_bound (ts : List GStep) (M : Nat) (h : ∀ t ∈ ts, t.key.size ≤ M) : ptot ts ≤ ts.length * M := by
  induction ts with
  | nil => simp [ptot]
  | cons x r ih =>
    have h1 := h x (by simp)
    have h2 := ih (fun t ht => h t (by simp [ht]))
    simp only [ptot, List.length_cons, Nat.succ_mul]
    omega

def HeavyP (ts : List GTok) (ps : List GStep) (w : World) (e : Ending) (w' : World) : Prop :=
  ∃ b, e = .returned (.bool b) ∧ w = w' ∧ (b = false → ts.length ≤ 200 ∧ tot ts ≤ 3000 ∧ ps.length ≤ 40)

def HeavyRel1 (ts : List GTok) (n i : Value) : Prop :=
  ∃ (k : Nat) (z : Int), k ≤ ts.length ∧ i = .int .i64 k ∧ n = .int .i64 z ∧ (ts.length ≤ 200 → z = tot (ts.take k))
def HeavyRel2 (b : Nat) (ps : List GStep) (n i : Value) : Prop :=
  ∃ (k : Nat) (z : Int), k ≤ ps.length ∧ i = .int .i64 k ∧ n = .int .i64 z ∧ (ps.length ≤ 40 → z = b + ptot (ps.take k))

set_option maxHeartbeats 2000000 in
theorem heavyp_small (hi : Nat) (A : Option Addr) (cap : Nat) (ts : List GTok) (B : Option Addr) (bap : Nat) (ps : List GStep) (w : World) (hT : Toks hi w A ts) (hP : Steps hi w B ps) (h2 : ts.length ≤ 200) (h40 : ps.length ≤ 40) (hs : ∀ t ∈ ts, t.s.size ≤ 140737488351232) (hk : ∀ s ∈ ps, s.key.size ≤ 140737488351232) :
    Calls Tryd.prog 10 #[.slice A ts.length cap, .slice B ps.length bap] w (HeavyP ts ps w) := by
  have HPS := Lib.hid hP
  have HKS := Lib.hid hk
  clear hP hk
  go_enter Tryd.func10, Tryd.ntmps10
  go_wp2
  go_loop [5, 6] (HeavyRel1 ts) (fun _ i => ts.length - (intOf i).toNat)
  case atStart => exact ⟨0, 0, Nat.zero_le _, rfl, rfl, fun _ => by simp [tot]⟩
  case round =>
    obtain ⟨k, z, hk, rfl, rfl, hz⟩ := hrel
    have hz' := hz h2
    clear hz
    by_cases hlt : k < ts.length
    · obtain ⟨⟨ab, ao, _⟩, rfl, rfl, hl, hc⟩ := hT (by intro e; simp [e] at hlt)
      have hc2 := (hc k ts[k] (List.getElem?_eq_getElem hlt)).2.2.1
      simp only at hc2
      have hsz := hs ts[k] (List.getElem_mem hlt)
      have HT := Lib.hid (tot_take ts k hlt)
      have hb : tot (ts.take k) ≤ 200 * 140737488351233 := by
        refine Nat.le_trans (tot_bound (ts.take k) 140737488351232 fun t ht => hs t (List.mem_of_mem_take ht)) ?_
        have : (ts.take k).length ≤ 200 := by simp; omega
        exact Nat.mul_le_mul_right _ this
      have HZ := Lib.hid hz'
      have hz1 : 0 ≤ z := by omega
      have hz2 : z ≤ 28147497670246600 := by omega
      clear hz' hs hc hb hl
      generalize ts[k].s = sk at *
      go_wp2
      go_round
      case rel => exact ⟨k + 1, _, by omega, by go_num, rfl, fun _ => by rw [HT.out, HZ.out]; push_cast; omega⟩
      case measure => simp [intOf]; omega
    · have hk' : k = ts.length := by omega
      have ht : tot (ts.take k) = tot ts := by rw [List.take_of_length_le (by omega)]
      have hb : tot ts ≤ 200 * 140737488351233 := by
        refine Nat.le_trans (tot_bound ts 140737488351232 fun t ht => hs t ht) ?_
        exact Nat.mul_le_mul_right _ h2
      rw [ht] at hz'
      generalize htot : tot ts = T0 at *
      subst hz'
      have HTT := Lib.hid htot
      clear ht htot hs
      have HK := Lib.hid hk'
      clear hk'
      go_wp2
      go_loop [5, 7] (HeavyRel2 T0 ps) (fun _ i => ps.length - (intOf i).toNat)
      case atStart => exact ⟨0, T0, Nat.zero_le _, rfl, rfl, fun _ => by simp [ptot]⟩
      case round =>
        obtain ⟨j, z, hj, rfl, rfl, hz⟩ := hrel
        have hz' := hz h40
        clear hz
        by_cases hlt : j < ps.length
        · obtain ⟨pb, po, rfl, _, _, _, p2⟩ := HPS.out.one hlt
          have hsz := HKS.out ps[j] (List.getElem_mem hlt)
          have HT := Lib.hid (ptot_take ps j hlt)
          have hb2 : ptot (ps.take j) ≤ 40 * 140737488351232 := by
            refine Nat.le_trans (ptot_bound (ps.take j) 140737488351232 fun t ht => HKS.out t (List.mem_of_mem_take ht)) ?_
            have : (ps.take j).length ≤ 40 := by simp; omega
            exact Nat.mul_le_mul_right _ this
          have HZ := Lib.hid hz'
          have hz1 : 0 ≤ z := by omega
          have hz2 : z ≤ 40000000000000000 := by omega
          clear hz' hb2
          generalize ps[j].key = sk at *
          go_wp2
          go_round
          case rel => exact ⟨j + 1, _, by omega, by go_num, rfl, fun _ => by rw [HT.out, HZ.out]; push_cast; omega⟩
          case measure => simp [intOf]; omega
        · have hz1 : (T0 : Int) ≤ z := by omega
          have HZ := Lib.hid hz'
          clear hz'
          go_wp2
          all_goals go_ret
          all_goals exact ⟨_, rfl, rfl, fun hb => by
            have := HTT.out
            first | (simp only [Bool.or_eq_false_iff, decide_eq_false_iff_not] at hb; omega) | (simp at hb; done) | (simp at hb; omega)⟩

set_option maxHeartbeats 2000000 in
theorem heavyp_great (hi : Nat) (A : Option Addr) (cap : Nat) (ts : List GTok) (B : Option Addr) (bap : Nat) (ps : List GStep) (w : World) (hT : Toks hi w A ts) (hP : Steps hi w B ps) (hm : ts.length ≤ maxLen) (hm2 : ps.length ≤ maxLen) (h2 : 200 < ts.length ∨ 40 < ps.length) (hs : ∀ t ∈ ts, t.s.size ≤ 140737488351232) (hk : ∀ s ∈ ps, s.key.size ≤ 140737488351232) :
    Calls Tryd.prog 10 #[.slice A ts.length cap, .slice B ps.length bap] w (HeavyP ts ps w) := by
  unfold maxLen at hm hm2
  have HPS := Lib.hid hP
  have HKS := Lib.hid hk
  have H2 := Lib.hid h2
  clear hP hk h2
  go_enter Tryd.func10, Tryd.ntmps10
  go_wp2
  go_loop [5, 6] (fun n i => ∃ (k : Nat) (z : Int), k ≤ ts.length ∧ i = .int .i64 k ∧ n = .int .i64 z) (fun _ i => ts.length - (intOf i).toNat)
  case atStart => exact ⟨0, 0, Nat.zero_le _, rfl, rfl⟩
  case round =>
    obtain ⟨k, z, hk, rfl, rfl⟩ := hrel
    by_cases hlt : k < ts.length
    · obtain ⟨⟨ab, ao, _⟩, rfl, rfl, hl, hc⟩ := hT (by intro e; simp [e] at hlt)
      have hc2 := (hc k ts[k] (List.getElem?_eq_getElem hlt)).2.2.1
      simp only at hc2
      have hsz := hs ts[k] (List.getElem_mem hlt)
      clear hs hc hl
      generalize ts[k].s = sk at *
      go_wp2
      go_round
      case rel => exact ⟨k + 1, _, by omega, by go_num, rfl⟩
      case measure => simp [intOf]; omega
    · go_wp2
      go_loop [5, 7] (fun n i => ∃ (k : Nat) (z : Int), k ≤ ps.length ∧ i = .int .i64 k ∧ n = .int .i64 z) (fun _ i => ps.length - (intOf i).toNat)
      case atStart => exact ⟨0, z, Nat.zero_le _, rfl, rfl⟩
      case round =>
        obtain ⟨j, z, hj, rfl, rfl⟩ := hrel
        by_cases hlt : j < ps.length
        · obtain ⟨pb, po, rfl, _, _, _, p2⟩ := HPS.out.one hlt
          have hsz := HKS.out ps[j] (List.getElem_mem hlt)
          generalize ps[j].key = sk at *
          go_wp2
          go_round
          case rel => exact ⟨j + 1, _, by omega, by go_num, rfl⟩
          case measure => simp [intOf]; omega
        · go_wp2
          all_goals go_ret
          all_goals exact ⟨_, rfl, rfl, fun hb => by
            have := H2.out
            first | (simp only [Bool.or_eq_false_iff, decide_eq_false_iff_not] at hb; omega) | (simp at hb; done) | (simp at hb; omega)⟩

theorem heavyp_any (hi : Nat) (A : Option Addr) (cap : Nat) (ts : List GTok) (B : Option Addr) (bap : Nat) (ps : List GStep) (w : World) (hT : Toks hi w A ts) (hP : Steps hi w B ps) (hm : ts.length ≤ maxLen) (hm2 : ps.length ≤ maxLen) (hs : ∀ t ∈ ts, t.s.size ≤ 140737488351232) (hk : ∀ s ∈ ps, s.key.size ≤ 140737488351232) :
    Calls Tryd.prog 10 #[.slice A ts.length cap, .slice B ps.length bap] w (HeavyP ts ps w) := by
  by_cases h2 : ts.length ≤ 200 ∧ ps.length ≤ 40
  · exact heavyp_small hi A cap ts B bap ps w hT hP h2.1 h2.2 hs hk
  · exact heavyp_great hi A cap ts B bap ps w hT hP hm hm2 (by omega) hs hk
end Go.Proofs.YtbmfjchdmicdoaaDoor
