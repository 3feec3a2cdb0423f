/- Turn, and what it calls: places, and which of both has its way. -/
import Derived.Test.YtlgggalbngpelaaSeqM
import Derived.Test.YtlgggalbngpelaaBaseA
import Derived.WalkKit
import Derived.WalkSpells
import Derived.Deep.QuietTactic
import Derived.BigQuiet
import Derived.Deep.RegionWith
import Derived.Deep.DeepCutAuto
import Derived.Lib.Hide
namespace Go.Proofs.Ytlgggalbngpelaa
open Go Go.RowKit
set_option linter.unusedVariables false
set_option linter.unusedSimpArgs false

theorem ret_int {k : IntKind} {a b : Int} (h : a = b) : Ending.returned (.int k a) = .returned (.int k b) := by rw [h]
theorem ret_bool {a b : Bool} (h : a = b) : Ending.returned (.bool a) = .returned (.bool b) := by rw [h]
theorem less_any (k i : Nat) (w : World) (hk : k ≤ 1099511627776) (hi : i ≤ 1099511627776) :
    Calls Try.prog 39 #[.int .i64 k, .int .i64 i] w fun e w' => e = .returned (.int .i64 (lessN k i)) ∧ w = w' := by
  generalize hr : lessN k i = r
  have HR := Lib.hid hr
  clear hr
  go_enter Try.func39, Try.ntmps39
  go_wp2
  all_goals
    go_ret
    exact ⟨ret_int (by have := HR.out; unfold lessN at this; split at this <;> omega), rfl⟩
theorem more_any (k i : Nat) (left : Bool) (w : World) (hk : k ≤ 1099511627776) (hi : i ≤ 1099511627776) :
    Calls Try.prog 38 #[.int .i64 k, .int .i64 i, .bool left] w fun e w' => e = .returned (.int .i64 (moreN k i left)) ∧ w = w' := by
  generalize hr : moreN k i left = r
  have HR := Lib.hid hr
  clear hr
  by_cases h2 : i = k
  · subst h2
    cases left
    all_goals
      go_enter Try.func38, Try.ntmps38
      go_wp2
      go_ret
      exact ⟨ret_int (by have := HR.out; simp [moreN] at this; omega), rfl⟩
  · have h3 : ((i : Int) == (k : Int)) = false := by simp; omega
    have H2 := Lib.hid h2
    clear h2
    go_enter Try.func38, Try.ntmps38
    go_wp2
    all_goals
      go_ret
      exact ⟨ret_int (by have h4 := HR.out; have h5 := H2.out; unfold moreN at h4; simp only [h5, false_and, or_false] at h4; split at h4 <;> omega), rfl⟩
theorem less_any' (k i : Nat) (w : World) (hk : k ≤ 1099511627776) (hi : i ≤ 1099511627776) : Calls Try.prog 39 #[.int .i64 k, .int .i64 i] w fun e w' => e = .returned (.int .i64 (lessN k i)) ∧ w' = w := (less_any k i w hk hi).mono fun _ _ h => ⟨h.1, h.2.symm⟩
theorem more_any' (k i : Nat) (left : Bool) (w : World) (hk : k ≤ 1099511627776) (hi : i ≤ 1099511627776) : Calls Try.prog 38 #[.int .i64 k, .int .i64 i, .bool left] w fun e w' => e = .returned (.int .i64 (moreN k i left)) ∧ w' = w := (more_any k i left w hk hi).mono fun _ _ h => ⟨h.1, h.2.symm⟩

set_option maxRecDepth 100000 in
set_option maxHeartbeats 4000000 in
theorem gap_any (k i j kd : Nat) (left : Bool) (A AL AO : Option Addr) (n c nL cL nO cO : Nat) (s vs t : ByteArray) (m vk vn : Int) (w : World) (hk : k ≤ 549755813888) (hi : i ≤ 549755813888) (hj : j ≤ 549755813888) :
    Calls Try.prog 25 #[.int .i64 k, .agg #[.int .u8 kd, .slice A n c, .string s, .int .i64 i, .int .i64 j, .int .i64 m, .int .u8 vk, .int .i64 vn, .string vs, .slice AL nL cL, .slice AO nO cO, .string t], .bool left] w fun e w' => e = .returned (.int .i64 (gapN k kd i j left)) ∧ Below w.heap.size w w' := by
  have hl : lessN k i ≤ 1099511627776 := by unfold lessN; split <;> omega
  rcases (show kd = 4 ∨ kd = 5 ∨ kd = 7 ∨ (kd ≠ 4 ∧ kd ≠ 5 ∧ kd ≠ 7) by omega) with rfl | rfl | rfl | ⟨h4, h5, h7⟩
  · rw [show gapN k 4 i j left = moreN k i left by simp [gapN]]
    go_enter Try.func25, Try.ntmps25
    go_wp2_with (go_at_call 38; refine (more_any _ _ _ _ (by omega) (by omega)).mono ?_; rintro e w' ⟨rfl, rfl⟩)
    go_ret
    exact ⟨rfl, (Below.refl _ _).alloc (Nat.le_refl _) _⟩
  · rw [show gapN k 5 i j left = lessN k i by simp [gapN]]
    go_enter Try.func25, Try.ntmps25
    go_wp2_with (go_at_call 39; refine (less_any _ _ _ (by omega) (by omega)).mono ?_; rintro e w' ⟨rfl, rfl⟩)
    go_ret
    exact ⟨rfl, (Below.refl _ _).alloc (Nat.le_refl _) _⟩
  · rw [show gapN k 7 i j left = moreN (lessN k i) j left by simp [gapN]]
    go_enter Try.func25, Try.ntmps25
    go_wp2
    go_quiet ((first | exact Calls.quiet_of_same (less_any' _ _ _ (by omega) (by omega)) | exact Calls.quiet_of_same (more_any' _ _ _ _ (by omega) (by omega))))
    go_wp2
    go_ret
    exact ⟨rfl, below_drewN ((Below.refl _ _).alloc (Nat.le_refl _) _) _⟩
  · rw [show gapN k kd i j left = k by simp [gapN, h4, h5, h7]]
    have g4 : ((kd : Int) == 4) = false := by simp; omega
    have g5 : ((kd : Int) == 5) = false := by simp; omega
    have g7 : ((kd : Int) == 7) = false := by simp; omega
    clear h4 h5 h7
    go_enter Try.func25, Try.ntmps25
    go_wp2
    go_ret
    exact ⟨rfl, (Below.refl _ _).alloc (Nat.le_refl _) _⟩

def atV (i kd ci cj : Nat) : Nat := if ci = i ∧ (kd = 5 ∨ kd = 6) then 0 else if ci = i ∧ kd = 7 then cj else gapN i kd ci cj false
def atB (i kd ci : Nat) : Bool := !decide (ci = i ∧ (kd = 5 ∨ kd = 6))
set_option maxRecDepth 100000 in
set_option maxHeartbeats 4000000 in
theorem at_any (x i j kd : Nat) (A AL AO : Option Addr) (n c nL cL nO cO : Nat) (s vs t : ByteArray) (m vk vn : Int) (w : World) (hk : x ≤ 549755813888) (hi : i ≤ 549755813888) (hj : j ≤ 549755813888) :
    Calls Try.prog 22 #[.int .i64 x, .agg #[.int .u8 kd, .slice A n c, .string s, .int .i64 i, .int .i64 j, .int .i64 m, .int .u8 vk, .int .i64 vn, .string vs, .slice AL nL cL, .slice AO nO cO, .string t]] w fun e w' => e = .returned (.tuple #[.int .i64 (atV x kd i j), .bool (atB x kd i)]) ∧ Below w.heap.size w w' := by
  have hg : ∀ W, Calls Try.prog 25 #[.int .i64 x, .agg #[.int .u8 kd, .slice A n c, .string s, .int .i64 i, .int .i64 j, .int .i64 m, .int .u8 vk, .int .i64 vn, .string vs, .slice AL nL cL, .slice AO nO cO, .string t], .bool false] W fun e w' => e = .returned (.int .i64 (gapN x kd i j false)) ∧ Below W.heap.size W w' := fun W => gap_any x i j kd false A AL AO n c nL cL nO cO s vs t m vk vn W hk hi hj
  have HG := Lib.hid hg
  clear hg
  by_cases e : i = x
  · subst e
    rcases (show kd = 5 ∨ kd = 6 ∨ kd = 7 ∨ (kd ≠ 5 ∧ kd ≠ 6 ∧ kd ≠ 7) by omega) with rfl | rfl | rfl | ⟨h5, h6, h7⟩
    · rw [show atV i 5 i j = 0 by simp [atV], show atB i 5 i = false by simp [atB]]
      go_enter Try.func22, Try.ntmps22
      go_wp2
      go_ret2
      exact ⟨rfl, (Below.refl _ _).alloc (Nat.le_refl _) _⟩
    · rw [show atV i 6 i j = 0 by simp [atV], show atB i 6 i = false by simp [atB]]
      go_enter Try.func22, Try.ntmps22
      go_wp2
      go_ret2
      exact ⟨rfl, (Below.refl _ _).alloc (Nat.le_refl _) _⟩
    · rw [show atV i 7 i j = j by simp [atV], show atB i 7 i = true by simp [atB]]
      go_enter Try.func22, Try.ntmps22
      go_wp2
      go_ret2
      exact ⟨rfl, (Below.refl _ _).alloc (Nat.le_refl _) _⟩
    · rw [show atV i kd i j = gapN i kd i j false by simp [atV, h5, h6, h7], show atB i kd i = true by simp [atB, h5, h6]]
      have g5 : ((kd : Int) == 5) = false := by simp; omega
      have g6 : ((kd : Int) == 6) = false := by simp; omega
      have g7 : ((kd : Int) == 7) = false := by simp; omega
      clear h5 h6 h7
      go_enter Try.func22, Try.ntmps22
      go_wp2_with (go_at_call 25; refine (HG.out _).mono ?_; rintro e w1 ⟨rfl, hb⟩; have B1 := Lib.hid (((Below.refl _ _).alloc (Nat.le_refl _) _).trans (hb.mono (by simp))); clear hb)
      go_ret2
      exact ⟨rfl, B1.out⟩
  · rw [show atV x kd i j = gapN x kd i j false by simp [atV, e], show atB x kd i = true by simp [atB, e]]
    have e1 : ((i : Int) == (x : Int)) = false := by simp; omega
    have e2 : (i == x) = false := by simp; omega
    clear e
    go_enter Try.func22, Try.ntmps22
    go_wp2_with (go_at_call 25; refine (HG.out _).mono ?_; rintro e w1 ⟨rfl, hb⟩; have B1 := Lib.hid (((Below.refl _ _).alloc (Nat.le_refl _) _).trans (hb.mono (by simp))); clear hb)
    go_ret2
    exact ⟨rfl, B1.out⟩

set_option maxRecDepth 100000 in
set_option maxHeartbeats 4000000 in
theorem lists_any (i j kd : Nat) (A AL AO : Option Addr) (n c nL cL nO cO : Nat) (s vs t : ByteArray) (m vk vn : Int) (w : World) :
    Calls Try.prog 23 #[.agg #[.int .u8 kd, .slice A n c, .string s, .int .i64 i, .int .i64 j, .int .i64 m, .int .u8 vk, .int .i64 vn, .string vs, .slice AL nL cL, .slice AO nO cO, .string t]] w fun e w' => e = .returned (.bool (listK kd)) ∧ Below w.heap.size w w' := by
  rcases (show kd = 4 ∨ kd = 5 ∨ kd = 6 ∨ kd = 7 ∨ (kd ≠ 4 ∧ kd ≠ 5 ∧ kd ≠ 6 ∧ kd ≠ 7) by omega) with rfl | rfl | rfl | rfl | ⟨h4, h5, h6, h7⟩
  case inr.inr.inr.inr =>
    rw [show listK kd = false by simp [listK, h4, h5, h6, h7]]
    have g4 : ((kd : Int) == 4) = false := by simp; omega
    have g5 : ((kd : Int) == 5) = false := by simp; omega
    have g6 : ((kd : Int) == 6) = false := by simp; omega
    have g7 : ((kd : Int) == 7) = false := by simp; omega
    clear h4 h5 h6 h7
    go_enter Try.func23, Try.ntmps23
    go_wp2
    go_ret
    exact ⟨rfl, (Below.refl _ _).alloc (Nat.le_refl _) _⟩
  all_goals
    go_enter Try.func23, Try.ntmps23
    go_wp2
    go_ret
    exact ⟨rfl, (Below.refl _ _).alloc (Nat.le_refl _) _⟩

set_option maxRecDepth 100000 in
set_option maxHeartbeats 4000000 in
theorem stays_any (i j kd i' j' kd' : Nat) (left : Bool) (A AL AO : Option Addr) (n c nL cL nO cO : Nat) (s vs t : ByteArray) (m vk vn : Int) (A' AL' AO' : Option Addr) (n' c' nL' cL' nO' cO' : Nat) (s' vs' t' : ByteArray) (m' vk' vn' : Int) (w : World) :
    Calls Try.prog 26 #[.agg #[.int .u8 kd, .slice A n c, .string s, .int .i64 i, .int .i64 j, .int .i64 m, .int .u8 vk, .int .i64 vn, .string vs, .slice AL nL cL, .slice AO nO cO, .string t], .agg #[.int .u8 kd', .slice A' n' c', .string s', .int .i64 i', .int .i64 j', .int .i64 m', .int .u8 vk', .int .i64 vn', .string vs', .slice AL' nL' cL', .slice AO' nO' cO', .string t'], .bool left] w fun e w' => e = .returned (.bool (staysN kd kd' left)) ∧ Below w.heap.size w w' := by
  by_cases h5 : kd' = 5
  · subst h5
    rw [show staysN kd 5 left = false by simp [staysN]]
    go_enter Try.func26, Try.ntmps26
    go_wp2
    go_ret
    exact ⟨rfl, ((Below.refl _ _).alloc (Nat.le_refl _) _).alloc (by simp) _⟩
  · have g5 : ((kd' : Int) == 5) = false := by simp; omega
    by_cases e : kd' = kd
    · subst e
      rw [show staysN kd' kd' left = left by simp [staysN, h5]]
      clear h5
      go_enter Try.func26, Try.ntmps26
      go_wp2
      go_ret
      exact ⟨rfl, ((Below.refl _ _).alloc (Nat.le_refl _) _).alloc (by simp) _⟩
    · rw [show staysN kd kd' left = true by simp [staysN, h5, e]]
      have e1 : ((kd' : Int) == (kd : Int)) = false := by simp; omega
      have e2 : (kd' == kd) = false := by simp; omega
      clear h5 e
      go_enter Try.func26, Try.ntmps26
      go_wp2
      go_ret
      exact ⟨rfl, ((Below.refl _ _).alloc (Nat.le_refl _) _).alloc (by simp) _⟩

def IsW (W0 W : World) : Prop := ∃ d, W = W0.drewN d
set_option maxRecDepth 100000 in
set_option maxHeartbeats 4000000 in
theorem lacking_any (i j kd x : Nat) (A AL AO : Option Addr) (n c nL cL nO cO : Nat) (s vs t : ByteArray) (m vk vn : Int) (w : World) (hx : x ≤ 549755813888) (hi : i ≤ 549755813888) (hj : j ≤ 549755813888) :
    Calls Try.prog 27 #[.agg #[.int .u8 kd, .slice A n c, .string s, .int .i64 i, .int .i64 j, .int .i64 m, .int .u8 vk, .int .i64 vn, .string vs, .slice AL nL cL, .slice AO nO cO, .string t], .int .i64 x] w fun e w' => e = .returned (.agg #[.int .u8 kd, .slice A n c, .string s, .int .i64 (lessN i x), .int .i64 (if kd = 7 then lessN j (lessN x i) else j : Nat), .int .i64 m, .int .u8 vk, .int .i64 vn, .string vs, .slice AL nL cL, .slice AO nO cO, .string t]) ∧ Below w.heap.size w w' := by
  by_cases h7 : kd = 7
  · subst h7
    rw [if_pos rfl]
    have h1 : lessN x i ≤ 549755813888 := by unfold lessN; split <;> omega
    go_enter Try.func27, Try.ntmps27
    go_wp2
    go_cut [] (IsW ((w.alloc (.cells #[.int .u8 7, .slice A n c, .string s, .int .i64 i, .int .i64 (lessN j (lessN x i)), .int .i64 m, .int .u8 vk, .int .i64 vn, .string vs, .slice AL nL cL, .slice AO nO cO, .string t] 29)).alloc (.cells #[.int .u8 0, .slice none 0 0, .string ⟨#[]⟩, .int .i64 0, .int .i64 0, .int .i64 0, .int .u8 0, .int .i64 0, .string ⟨#[]⟩, .slice none 0 0, .slice none 0 0, .string ⟨#[]⟩] 29)))
    case first =>
      go_region_with (go_at_call 39; refine (less_any _ _ _ (by omega) (by omega)).mono ?_; rintro e w' ⟨rfl, rfl⟩)
      all_goals go_wp2_with fail
      all_goals go_meet
      all_goals exact ⟨1, rfl⟩
    case rest =>
      obtain ⟨d, hd⟩ := hcut
      rw [show ∀ o o', ((w.alloc o).alloc o').drewN d = ((w.drewN d).alloc o).alloc o' from fun _ _ => rfl] at hd
      subst hd
      rw [show w.heap.size = (w.drewN d).heap.size from rfl]
      have HB := Lib.hid (below_drewN (Below.refl w.heap.size w) d)
      generalize w.drewN d = wq at *
      go_wp2_with (go_at_call 39; refine (less_any _ _ _ (by omega) (by omega)).mono ?_; rintro e w' ⟨rfl, rfl⟩)
      exact bodyPost_ret (v := .agg #[.int .u8 7, .slice A n c, .string s, .int .i64 (lessN i x), .int .i64 (lessN j (lessN x i)), .int .i64 m, .int .u8 vk, .int .i64 vn, .string vs, .slice AL nL cL, .slice AO nO cO, .string t]) (by simp [results, Try.results27, go_sem]) rfl ⟨rfl, (HB.out.alloc HB.out.size _).alloc (Nat.le_trans HB.out.size (by simp)) _⟩
  · have g7 : ((kd : Int) == 7) = false := by simp; omega
    rw [if_neg h7]
    clear h7
    go_enter Try.func27, Try.ntmps27
    go_wp2_with (go_at_call 39; refine (less_any _ _ _ (by omega) (by omega)).mono ?_; rintro e w' ⟨rfl, rfl⟩)
    exact bodyPost_ret (v := .agg #[.int .u8 kd, .slice A n c, .string s, .int .i64 (lessN i x), .int .i64 j, .int .i64 m, .int .u8 vk, .int .i64 vn, .string vs, .slice AL nL cL, .slice AO nO cO, .string t]) (by simp [results, Try.results27, go_sem]) rfl ⟨rfl, ((Below.refl _ _).alloc (Nat.le_refl _) _).alloc (by simp) _⟩
end Go.Proofs.Ytlgggalbngpelaa
