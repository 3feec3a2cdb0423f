/- PathSounds, the Go function: it comes out true. -/
import Derived.Test.YtbmfjchdmicdoaaDoorPKnown
import Derived.Test.YtbmfjchdmicdoaaDoorPBegins
import Derived.Test.YtbmfjchdmicdoaaDoorHeavyP
namespace Go.Proofs.YtbmfjchdmicdoaaDoor
open Go Go.RowKit

theorem Steps.take {hi : Nat} {W : World} {A : Option Addr} {ps : List GStep} (h : Steps hi W A ps) (n : Nat) : Steps hi W A (ps.take n) := fun hn => by
  obtain ⟨a, rfl, hs, hl, hc⟩ := h (by intro e; rw [e] at hn; simp at hn)
  refine ⟨a, rfl, hs, hl, fun i s hi => hc i s ?_⟩
  rw [List.getElem?_take] at hi
  split at hi
  · exact hi
  · cases hi
theorem sameStep_refl (x : GStep) : sameStep x x = true := by simp [sameStep]
theorem begins_front (ps : List GStep) (n : Nat) : begins ps (ps.take n) = true := by
  have h1 : (ps.take n).length ≤ ps.length := by simp; omega
  have h2 : Lib.allEq sameStep (ps.take (ps.take n).length) (ps.take n) = true := by
    refine Lib.allEq_all sameStep _ _ (by simp) fun j hj => ?_
    rw [show ps.take (ps.take n).length = ps.take n by simp]
    exact sameStep_refl _
  unfold begins
  rw [h2, decide_eq_true h1]
  rfl
theorem begins_back (ps : List GStep) (n : Nat) (hn : n ≤ ps.length) : begins (ps.take n) ps = decide (n = ps.length) := by
  by_cases h : n = ps.length
  · subst h
    have := begins_front ps ps.length
    rw [List.take_of_length_le (Nat.le_refl _)] at this ⊢
    simp [this]
  · have : ¬ ps.length ≤ (ps.take n).length := by simp; omega
    simp [begins, h]
    omega

set_option maxHeartbeats 4000000 in
theorem psounds_true (hi : Nat) (A : Option Addr) (ca : Nat) (ps : List GStep) (B : Option Addr) (cb : Nat) (qs : List GStep) (k : Int) (w : World) (hla : ps.length ≤ ca) (hma : ca ≤ maxLen) (hlb : qs.length ≤ cb) (hmb : cb ≤ maxLen) (hhi : hi ≤ w.heap.size) (hP : Steps hi w A ps) (hQ : Steps hi w B qs)
    (hka : ∀ s ∈ ps, s.key.size ≤ 140737488351232) (hkb : ∀ s ∈ qs, s.key.size ≤ 140737488351232) (hT : Tabs w) :
    Calls Tryd.prog 4 #[.slice A ps.length ca, .slice B qs.length cb, .int .i64 k] w (TrueBelow w) := by
  have hma2 : ps.length ≤ maxLen := Nat.le_trans hla hma
  have hmb2 : qs.length ≤ maxLen := Nat.le_trans hlb hmb
  have hk' : ∀ s ∈ ps, s.key.size ≤ 9223372036854775807 := fun s hs => by have := hka s hs; omega
  have hh1 := heavyp_any hi none 0 [] A ca ps w (fun h => absurd rfl h) hP (by decide) hma2 (fun t ht => by simp at ht) hka
  have hh2 := heavyp_any hi none 0 [] B cb qs w (fun h => absurd rfl h) hQ (by decide) hmb2 (fun t ht => by simp at ht) hkb
  simp only [List.length_nil] at hh1 hh2
  have hp : ∀ W, Below w.heap.size w W → Steps w.heap.size W A ps := fun W hb => hP.keep (hb.mono hhi) hhi
  have hq : ∀ W, Below w.heap.size w W → Steps w.heap.size W B qs := fun W hb => hQ.keep (hb.mono hhi) hhi
  have hs1 := fun W (hb : Below w.heap.size w W) => path_Sound w.heap.size A ca ps W (hp W hb) hb.size hma2 hk' (hT.below hb (Nat.le_refl _))
  have hs2 := fun W (hb : Below w.heap.size w W) => ref_SoundP w.heap.size A ca ps W (hp W hb) hb.size hma2 hk' (hT.below hb (Nat.le_refl _))
  have hb1 := fun W (hb : Below w.heap.size w W) => path_Begins w.heap.size A B ca cb ps qs W (hp W hb) (hq W hb) hla hma hmb2
  have hb2 := fun W (hb : Below w.heap.size w W) => ref_Begins w.heap.size A B ca cb ps qs W (hp W hb) (hq W hb) hb.size hma2 hmb2
  have hb3 : ∀ n : Nat, n ≤ ps.length → ∀ W, Below w.heap.size w W → Calls Tryd.prog 19 #[.slice A ps.length ca, .slice A n ca] W fun e w' => e = .returned (.bool true) ∧ Below W.heap.size W w' := fun n hn W hb => by
    have h := path_Begins w.heap.size A A ca ca ps (ps.take n) W (hp W hb) ((hp W hb).take n) hla hma (by rw [List.length_take]; omega)
    rwa [begins_front, List.length_take, Nat.min_eq_left hn] at h
  have hb4 : ∀ n : Nat, n ≤ ps.length → ∀ W, Below w.heap.size w W → Calls Tryd.prog 19 #[.slice A n ca, .slice A ps.length ca] W fun e w' => e = .returned (.bool (decide (n = ps.length))) ∧ Below W.heap.size W w' := fun n hn W hb => by
    have h := path_Begins w.heap.size A A ca ca (ps.take n) ps W ((hp W hb).take n) (hp W hb) (by rw [List.length_take]; omega) hma hma2
    rwa [begins_back _ _ hn, List.length_take, Nat.min_eq_left hn] at h
  have HH1 := Lib.hid hh1
  have HH2 := Lib.hid hh2
  have HS1 := Lib.hid hs1
  have HS2 := Lib.hid hs2
  have HB1 := Lib.hid hb1
  have HB2 := Lib.hid hb2
  have HB3 := Lib.hid hb3
  have HB4 := Lib.hid hb4
  have HK := Lib.hid (fun W (hb : Below w.heap.size w W) => pknown_true W (hT.below hb (Nat.le_refl _)))
  clear hh1 hh2 hs1 hs2 hb1 hb2 hb3 hb4 hT hp hq hP hQ hka hkb hk' hma2 hmb2
  unfold maxLen at hma hmb
  unfold HeavyP at HH1 HH2
  unfold TrueBelow at HK
  generalize soundP ps = r1 at *
  generalize begins ps qs = r2 at *
  generalize ps.length = np at *
  generalize qs.length = nq at *
  by_cases h40 : np ≤ 40
  · have hmod : ∃ n : Nat, n ≤ np ∧ max k 0 % ((np : Int) + 1) = n := ⟨(max k 0 % ((np : Int) + 1)).toNat, by
      have h0 : 0 ≤ max k 0 := Int.le_max_right _ _
      have h1 := Int.emod_nonneg (max k 0) (show ((np : Int) + 1) ≠ 0 by omega)
      have h2 := Int.emod_lt_of_pos (max k 0) (show (0 : Int) < (np : Int) + 1 by omega)
      constructor
      · omega
      · omega⟩
    obtain ⟨n, hn, hmod⟩ := hmod
    have he : (decide (n = np) == ((n : Int) == (np : Int))) = true := by
      by_cases e : n = np
      · subst e; simp
      · have e2 : ((n : Int) == (np : Int)) = false := by simpa using (show ¬ (n : Int) = (np : Int) by omega)
        rw [e2, decide_eq_false e]; rfl
    have HE := Lib.hid he
    clear he
    go_enter Tryd.func4, Tryd.ntmps4
    go_wp2_with (first
      | (go_at_call 10; refine HH1.out.mono ?_; rintro e w' ⟨b, rfl, rfl, _⟩; clear HH1)
      | (go_at_call 10; refine HH2.out.mono ?_; rintro e w' ⟨b', rfl, rfl, _⟩; clear HH2)
      | (go_at_call 11; refine (HK.out _ (Below.refl _ _)).mono ?_; rintro e w1 ⟨rfl, hb⟩; have W1 := Lib.hid hb; clear hb)
      | (go_at_call 17; refine (HS1.out _ W1.out).mono ?_; rintro e w2 ⟨rfl, hb⟩; have W2 := Lib.hid (W1.out.trans (hb.mono W1.out.size)); clear hb)
      | (go_at_call 18; refine (HS2.out _ W2.out).mono ?_; rintro e w3 ⟨rfl, hb⟩; have W3 := Lib.hid (W2.out.trans (hb.mono W2.out.size)); clear hb)
      | (go_at_call 20; refine (HB2.out _ W4.out).mono ?_; rintro e w5 ⟨rfl, hb⟩; have W5 := Lib.hid (W4.out.trans (hb.mono W4.out.size)); clear hb)
      | (go_at_call 19; refine (HB1.out _ W3.out).mono ?_; rintro e w4 ⟨rfl, hb⟩; have W4 := Lib.hid (W3.out.trans (hb.mono W3.out.size)); clear hb HB1)
      | (go_at_call 19; refine (HB3.out n hn _ W5.out).mono ?_; rintro e w6 ⟨rfl, hb⟩; have W6 := Lib.hid (W5.out.trans (hb.mono W5.out.size)); clear hb HB3)
      | (go_at_call 19; refine (HB4.out n hn _ W6.out).mono ?_; rintro e w7 ⟨rfl, hb⟩; have W7 := Lib.hid (W6.out.trans (hb.mono W6.out.size)); clear hb HB4))
    all_goals go_ret
    all_goals first
      | exact ⟨rfl, W1.out⟩
      | exact ⟨congrArg (fun b => Ending.returned (.bool b)) HE.out, W7.out⟩
  · have hh : Calls Tryd.prog 10 #[.slice none 0 0, .slice A np ca] w fun e w' => e = .returned (.bool true) ∧ w = w' := HH1.out.mono fun e w' ⟨b, he, hw, h0⟩ => by
      cases b with
      | true => exact ⟨he, hw⟩
      | false => exact absurd (h0 rfl).2.2 h40
    have HH := Lib.hid hh
    clear hh HH1 HH2 HS1 HS2 HB1 HB2 HB3 HB4
    go_enter Tryd.func4, Tryd.ntmps4
    go_wp2_with (first
      | (go_at_call 10; refine HH.out.mono ?_; rintro e w' ⟨rfl, rfl⟩)
      | (go_at_call 11; refine (HK.out _ (Below.refl _ _)).mono ?_; rintro e w1 ⟨rfl, hb⟩; have W1 := Lib.hid hb; clear hb))
    go_ret
    exact ⟨rfl, W1.out⟩
end Go.Proofs.YtbmfjchdmicdoaaDoor
