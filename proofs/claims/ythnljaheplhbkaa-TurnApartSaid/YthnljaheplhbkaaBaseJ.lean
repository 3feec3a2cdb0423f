/- Texts in one: SeqT, SeqA, SeqL, SeqW, SeqE. -/
import Derived.Test.YthnljaheplhbkaaSeqM
import Derived.Test.YthnljaheplhbkaaBaseA
import Derived.WalkKit
import Derived.WalkSpells
import Derived.Deep.QuietTactic
import Derived.BigQuiet
import Derived.Deep.RegionWith
import Derived.Deep.DeepCutAuto
import Derived.Lib.Hide
import Derived.Test.YthnljaheplhbkaaBaseD
import Derived.Test.YthnljaheplhbkaaBaseC
import Derived.OwnWalk
import Derived.ArgAppend
import Derived.Maps.AppendAt
import Derived.Deep.RegionHeld3
import Derived.Deep.Upon
/- Turn, and what it calls: places, and which of both has its way. -/
namespace Go.Proofs.Ythnljaheplhbkaa
open Go Go.RowKit
set_option linter.unusedVariables false
set_option linter.unusedSimpArgs false

theorem ret_int {k : IntKind} {a b : Int} (h : a = b) : Ending.returned (.int k a) = .returned (.int k b) := by rw [h]
theorem ret_bool {a b : Bool} (h : a = b) : Ending.returned (.bool a) = .returned (.bool b) := by rw [h]
theorem less_any (k i : Nat) (w : World) (hk : k ≤ 1099511627776) (hi : i ≤ 1099511627776) :
    Calls Try.prog 57 #[.int .i64 k, .int .i64 i] w fun e w' => e = .returned (.int .i64 (lessN k i)) ∧ w = w' := by
  generalize hr : lessN k i = r
  have HR := Lib.hid hr
  clear hr
  go_enter Try.func57, Try.ntmps57
  go_wp2
  all_goals
    go_ret
    exact ⟨ret_int (by have := HR.out; unfold lessN at this; split at this <;> omega), rfl⟩
theorem more_any (k i : Nat) (left : Bool) (w : World) (hk : k ≤ 1099511627776) (hi : i ≤ 1099511627776) :
    Calls Try.prog 56 #[.int .i64 k, .int .i64 i, .bool left] w fun e w' => e = .returned (.int .i64 (moreN k i left)) ∧ w = w' := by
  generalize hr : moreN k i left = r
  have HR := Lib.hid hr
  clear hr
  by_cases h2 : i = k
  · subst h2
    cases left
    all_goals
      go_enter Try.func56, Try.ntmps56
      go_wp2
      go_ret
      exact ⟨ret_int (by have := HR.out; simp [moreN] at this; omega), rfl⟩
  · have h3 : ((i : Int) == (k : Int)) = false := by simp; omega
    have H2 := Lib.hid h2
    clear h2
    go_enter Try.func56, Try.ntmps56
    go_wp2
    all_goals
      go_ret
      exact ⟨ret_int (by have h4 := HR.out; have h5 := H2.out; unfold moreN at h4; simp only [h5, false_and, or_false] at h4; split at h4 <;> omega), rfl⟩
theorem less_any' (k i : Nat) (w : World) (hk : k ≤ 1099511627776) (hi : i ≤ 1099511627776) : Calls Try.prog 57 #[.int .i64 k, .int .i64 i] w fun e w' => e = .returned (.int .i64 (lessN k i)) ∧ w' = w := (less_any k i w hk hi).mono fun _ _ h => ⟨h.1, h.2.symm⟩
theorem more_any' (k i : Nat) (left : Bool) (w : World) (hk : k ≤ 1099511627776) (hi : i ≤ 1099511627776) : Calls Try.prog 56 #[.int .i64 k, .int .i64 i, .bool left] w fun e w' => e = .returned (.int .i64 (moreN k i left)) ∧ w' = w := (more_any k i left w hk hi).mono fun _ _ h => ⟨h.1, h.2.symm⟩

set_option maxRecDepth 100000 in
set_option maxHeartbeats 4000000 in
theorem gap_any (k i j kd : Nat) (left : Bool) (A AL AO : Option Addr) (n c nL cL nO cO : Nat) (s vs t : ByteArray) (m vk vn : Int) (w : World) (hk : k ≤ 549755813888) (hi : i ≤ 549755813888) (hj : j ≤ 549755813888) :
    Calls Try.prog 43 #[.int .i64 k, .agg #[.int .u8 kd, .slice A n c, .string s, .int .i64 i, .int .i64 j, .int .i64 m, .int .u8 vk, .int .i64 vn, .string vs, .slice AL nL cL, .slice AO nO cO, .string t], .bool left] w fun e w' => e = .returned (.int .i64 (gapN k kd i j left)) ∧ Below w.heap.size w w' := by
  have hl : lessN k i ≤ 1099511627776 := by unfold lessN; split <;> omega
  rcases (show kd = 4 ∨ kd = 5 ∨ kd = 7 ∨ (kd ≠ 4 ∧ kd ≠ 5 ∧ kd ≠ 7) by omega) with rfl | rfl | rfl | ⟨h4, h5, h7⟩
  · rw [show gapN k 4 i j left = moreN k i left by simp [gapN]]
    go_enter Try.func43, Try.ntmps43
    go_wp2_with (go_at_call 56; refine (more_any _ _ _ _ (by omega) (by omega)).mono ?_; rintro e w' ⟨rfl, rfl⟩)
    go_ret
    exact ⟨rfl, (Below.refl _ _).alloc (Nat.le_refl _) _⟩
  · rw [show gapN k 5 i j left = lessN k i by simp [gapN]]
    go_enter Try.func43, Try.ntmps43
    go_wp2_with (go_at_call 57; refine (less_any _ _ _ (by omega) (by omega)).mono ?_; rintro e w' ⟨rfl, rfl⟩)
    go_ret
    exact ⟨rfl, (Below.refl _ _).alloc (Nat.le_refl _) _⟩
  · rw [show gapN k 7 i j left = moreN (lessN k i) j left by simp [gapN]]
    go_enter Try.func43, Try.ntmps43
    go_wp2
    go_quiet ((first | exact Calls.quiet_of_same (less_any' _ _ _ (by omega) (by omega)) | exact Calls.quiet_of_same (more_any' _ _ _ _ (by omega) (by omega))))
    go_wp2
    go_ret
    exact ⟨rfl, below_drewN ((Below.refl _ _).alloc (Nat.le_refl _) _) _⟩
  · rw [show gapN k kd i j left = k by simp [gapN, h4, h5, h7]]
    have g4 : ((kd : Int) == 4) = false := by simp; omega
    have g5 : ((kd : Int) == 5) = false := by simp; omega
    have g7 : ((kd : Int) == 7) = false := by simp; omega
    clear h4 h5 h7
    go_enter Try.func43, Try.ntmps43
    go_wp2
    go_ret
    exact ⟨rfl, (Below.refl _ _).alloc (Nat.le_refl _) _⟩

def atV (i kd ci cj : Nat) : Nat := if ci = i ∧ (kd = 5 ∨ kd = 6) then 0 else if ci = i ∧ kd = 7 then cj else gapN i kd ci cj false
def atB (i kd ci : Nat) : Bool := !decide (ci = i ∧ (kd = 5 ∨ kd = 6))
set_option maxRecDepth 100000 in
set_option maxHeartbeats 4000000 in
theorem at_any (x i j kd : Nat) (A AL AO : Option Addr) (n c nL cL nO cO : Nat) (s vs t : ByteArray) (m vk vn : Int) (w : World) (hk : x ≤ 549755813888) (hi : i ≤ 549755813888) (hj : j ≤ 549755813888) :
    Calls Try.prog 39 #[.int .i64 x, .agg #[.int .u8 kd, .slice A n c, .string s, .int .i64 i, .int .i64 j, .int .i64 m, .int .u8 vk, .int .i64 vn, .string vs, .slice AL nL cL, .slice AO nO cO, .string t]] w fun e w' => e = .returned (.tuple #[.int .i64 (atV x kd i j), .bool (atB x kd i)]) ∧ Below w.heap.size w w' := by
  have hg : ∀ W, Calls Try.prog 43 #[.int .i64 x, .agg #[.int .u8 kd, .slice A n c, .string s, .int .i64 i, .int .i64 j, .int .i64 m, .int .u8 vk, .int .i64 vn, .string vs, .slice AL nL cL, .slice AO nO cO, .string t], .bool false] W fun e w' => e = .returned (.int .i64 (gapN x kd i j false)) ∧ Below W.heap.size W w' := fun W => gap_any x i j kd false A AL AO n c nL cL nO cO s vs t m vk vn W hk hi hj
  have HG := Lib.hid hg
  clear hg
  by_cases e : i = x
  · subst e
    rcases (show kd = 5 ∨ kd = 6 ∨ kd = 7 ∨ (kd ≠ 5 ∧ kd ≠ 6 ∧ kd ≠ 7) by omega) with rfl | rfl | rfl | ⟨h5, h6, h7⟩
    · rw [show atV i 5 i j = 0 by simp [atV], show atB i 5 i = false by simp [atB]]
      go_enter Try.func39, Try.ntmps39
      go_wp2
      go_ret2
      exact ⟨rfl, (Below.refl _ _).alloc (Nat.le_refl _) _⟩
    · rw [show atV i 6 i j = 0 by simp [atV], show atB i 6 i = false by simp [atB]]
      go_enter Try.func39, Try.ntmps39
      go_wp2
      go_ret2
      exact ⟨rfl, (Below.refl _ _).alloc (Nat.le_refl _) _⟩
    · rw [show atV i 7 i j = j by simp [atV], show atB i 7 i = true by simp [atB]]
      go_enter Try.func39, Try.ntmps39
      go_wp2
      go_ret2
      exact ⟨rfl, (Below.refl _ _).alloc (Nat.le_refl _) _⟩
    · rw [show atV i kd i j = gapN i kd i j false by simp [atV, h5, h6, h7], show atB i kd i = true by simp [atB, h5, h6]]
      have g5 : ((kd : Int) == 5) = false := by simp; omega
      have g6 : ((kd : Int) == 6) = false := by simp; omega
      have g7 : ((kd : Int) == 7) = false := by simp; omega
      clear h5 h6 h7
      go_enter Try.func39, Try.ntmps39
      go_wp2_with (go_at_call 43; refine (HG.out _).mono ?_; rintro e w1 ⟨rfl, hb⟩; have B1 := Lib.hid (((Below.refl _ _).alloc (Nat.le_refl _) _).trans (hb.mono (by simp))); clear hb)
      go_ret2
      exact ⟨rfl, B1.out⟩
  · rw [show atV x kd i j = gapN x kd i j false by simp [atV, e], show atB x kd i = true by simp [atB, e]]
    have e1 : ((i : Int) == (x : Int)) = false := by simp; omega
    have e2 : (i == x) = false := by simp; omega
    clear e
    go_enter Try.func39, Try.ntmps39
    go_wp2_with (go_at_call 43; refine (HG.out _).mono ?_; rintro e w1 ⟨rfl, hb⟩; have B1 := Lib.hid (((Below.refl _ _).alloc (Nat.le_refl _) _).trans (hb.mono (by simp))); clear hb)
    go_ret2
    exact ⟨rfl, B1.out⟩

set_option maxRecDepth 100000 in
set_option maxHeartbeats 4000000 in
theorem lists_any (i j kd : Nat) (A AL AO : Option Addr) (n c nL cL nO cO : Nat) (s vs t : ByteArray) (m vk vn : Int) (w : World) :
    Calls Try.prog 41 #[.agg #[.int .u8 kd, .slice A n c, .string s, .int .i64 i, .int .i64 j, .int .i64 m, .int .u8 vk, .int .i64 vn, .string vs, .slice AL nL cL, .slice AO nO cO, .string t]] w fun e w' => e = .returned (.bool (listK kd)) ∧ Below w.heap.size w w' := by
  rcases (show kd = 4 ∨ kd = 5 ∨ kd = 6 ∨ kd = 7 ∨ (kd ≠ 4 ∧ kd ≠ 5 ∧ kd ≠ 6 ∧ kd ≠ 7) by omega) with rfl | rfl | rfl | rfl | ⟨h4, h5, h6, h7⟩
  case inr.inr.inr.inr =>
    rw [show listK kd = false by simp [listK, h4, h5, h6, h7]]
    have g4 : ((kd : Int) == 4) = false := by simp; omega
    have g5 : ((kd : Int) == 5) = false := by simp; omega
    have g6 : ((kd : Int) == 6) = false := by simp; omega
    have g7 : ((kd : Int) == 7) = false := by simp; omega
    clear h4 h5 h6 h7
    go_enter Try.func41, Try.ntmps41
    go_wp2
    go_ret
    exact ⟨rfl, (Below.refl _ _).alloc (Nat.le_refl _) _⟩
  all_goals
    go_enter Try.func41, Try.ntmps41
    go_wp2
    go_ret
    exact ⟨rfl, (Below.refl _ _).alloc (Nat.le_refl _) _⟩

set_option maxRecDepth 100000 in
set_option maxHeartbeats 4000000 in
theorem stays_any (i j kd i' j' kd' : Nat) (left : Bool) (A AL AO : Option Addr) (n c nL cL nO cO : Nat) (s vs t : ByteArray) (m vk vn : Int) (A' AL' AO' : Option Addr) (n' c' nL' cL' nO' cO' : Nat) (s' vs' t' : ByteArray) (m' vk' vn' : Int) (w : World) :
    Calls Try.prog 44 #[.agg #[.int .u8 kd, .slice A n c, .string s, .int .i64 i, .int .i64 j, .int .i64 m, .int .u8 vk, .int .i64 vn, .string vs, .slice AL nL cL, .slice AO nO cO, .string t], .agg #[.int .u8 kd', .slice A' n' c', .string s', .int .i64 i', .int .i64 j', .int .i64 m', .int .u8 vk', .int .i64 vn', .string vs', .slice AL' nL' cL', .slice AO' nO' cO', .string t'], .bool left] w fun e w' => e = .returned (.bool (staysN kd kd' left)) ∧ Below w.heap.size w w' := by
  by_cases h5 : kd' = 5
  · subst h5
    rw [show staysN kd 5 left = false by simp [staysN]]
    go_enter Try.func44, Try.ntmps44
    go_wp2
    go_ret
    exact ⟨rfl, ((Below.refl _ _).alloc (Nat.le_refl _) _).alloc (by simp) _⟩
  · have g5 : ((kd' : Int) == 5) = false := by simp; omega
    by_cases e : kd' = kd
    · subst e
      rw [show staysN kd' kd' left = left by simp [staysN, h5]]
      clear h5
      go_enter Try.func44, Try.ntmps44
      go_wp2
      go_ret
      exact ⟨rfl, ((Below.refl _ _).alloc (Nat.le_refl _) _).alloc (by simp) _⟩
    · rw [show staysN kd kd' left = true by simp [staysN, h5, e]]
      have e1 : ((kd' : Int) == (kd : Int)) = false := by simp; omega
      have e2 : (kd' == kd) = false := by simp; omega
      clear h5 e
      go_enter Try.func44, Try.ntmps44
      go_wp2
      go_ret
      exact ⟨rfl, ((Below.refl _ _).alloc (Nat.le_refl _) _).alloc (by simp) _⟩

def IsW (W0 W : World) : Prop := ∃ d, W = W0.drewN d
set_option maxRecDepth 100000 in
set_option maxHeartbeats 4000000 in
theorem lacking_any (i j kd x : Nat) (A AL AO : Option Addr) (n c nL cL nO cO : Nat) (s vs t : ByteArray) (m vk vn : Int) (w : World) (hx : x ≤ 549755813888) (hi : i ≤ 549755813888) (hj : j ≤ 549755813888) :
    Calls Try.prog 45 #[.agg #[.int .u8 kd, .slice A n c, .string s, .int .i64 i, .int .i64 j, .int .i64 m, .int .u8 vk, .int .i64 vn, .string vs, .slice AL nL cL, .slice AO nO cO, .string t], .int .i64 x] w fun e w' => e = .returned (.agg #[.int .u8 kd, .slice A n c, .string s, .int .i64 (lessN i x), .int .i64 (if kd = 7 then lessN j (lessN x i) else j : Nat), .int .i64 m, .int .u8 vk, .int .i64 vn, .string vs, .slice AL nL cL, .slice AO nO cO, .string t]) ∧ Below w.heap.size w w' := by
  by_cases h7 : kd = 7
  · subst h7
    rw [if_pos rfl]
    have h1 : lessN x i ≤ 549755813888 := by unfold lessN; split <;> omega
    go_enter Try.func45, Try.ntmps45
    go_wp2
    go_cut [] (IsW ((w.alloc (.cells #[.int .u8 7, .slice A n c, .string s, .int .i64 i, .int .i64 (lessN j (lessN x i)), .int .i64 m, .int .u8 vk, .int .i64 vn, .string vs, .slice AL nL cL, .slice AO nO cO, .string t] 35)).alloc (.cells #[.int .u8 0, .slice none 0 0, .string ⟨#[]⟩, .int .i64 0, .int .i64 0, .int .i64 0, .int .u8 0, .int .i64 0, .string ⟨#[]⟩, .slice none 0 0, .slice none 0 0, .string ⟨#[]⟩] 35)))
    case first =>
      go_region_with (go_at_call 57; refine (less_any _ _ _ (by omega) (by omega)).mono ?_; rintro e w' ⟨rfl, rfl⟩)
      all_goals go_wp2_with fail
      all_goals go_meet
      all_goals exact ⟨1, rfl⟩
    case rest =>
      obtain ⟨d, hd⟩ := hcut
      rw [show ∀ o o', ((w.alloc o).alloc o').drewN d = ((w.drewN d).alloc o).alloc o' from fun _ _ => rfl] at hd
      subst hd
      rw [show w.heap.size = (w.drewN d).heap.size from rfl]
      have HB := Lib.hid (below_drewN (Below.refl w.heap.size w) d)
      generalize w.drewN d = wq at *
      go_wp2_with (go_at_call 57; refine (less_any _ _ _ (by omega) (by omega)).mono ?_; rintro e w' ⟨rfl, rfl⟩)
      exact bodyPost_ret (v := .agg #[.int .u8 7, .slice A n c, .string s, .int .i64 (lessN i x), .int .i64 (lessN j (lessN x i)), .int .i64 m, .int .u8 vk, .int .i64 vn, .string vs, .slice AL nL cL, .slice AO nO cO, .string t]) (by simp [results, Try.results45, go_sem]) rfl ⟨rfl, (HB.out.alloc HB.out.size _).alloc (Nat.le_trans HB.out.size (by simp)) _⟩
  · have g7 : ((kd : Int) == 7) = false := by simp; omega
    rw [if_neg h7]
    clear h7
    go_enter Try.func45, Try.ntmps45
    go_wp2_with (go_at_call 57; refine (less_any _ _ _ (by omega) (by omega)).mono ?_; rintro e w' ⟨rfl, rfl⟩)
    exact bodyPost_ret (v := .agg #[.int .u8 kd, .slice A n c, .string s, .int .i64 (lessN i x), .int .i64 j, .int .i64 m, .int .u8 vk, .int .i64 vn, .string vs, .slice AL nL cL, .slice AO nO cO, .string t]) (by simp [results, Try.results45, go_sem]) rfl ⟨rfl, ((Below.refl _ _).alloc (Nat.le_refl _) _).alloc (by simp) _⟩
end Go.Proofs.Ythnljaheplhbkaa

/- alone: a list of one component, in new memory. -/
namespace Go.Proofs.Ythnljaheplhbkaa
open Go Go.RowKit
set_option linter.unusedVariables false
set_option linter.unusedSimpArgs false

structure Tw (W : World) (b : Nat) (a0 a1 a2 a3 a4 a5 a6 a7 a8 a9 a10 a11 : Value) : Prop where
  c0 : W.cell? ⟨b, 0, none⟩ = some a0
  c1 : W.cell? ⟨b, 1, none⟩ = some a1
  c2 : W.cell? ⟨b, 2, none⟩ = some a2
  c3 : W.cell? ⟨b, 3, none⟩ = some a3
  c4 : W.cell? ⟨b, 4, none⟩ = some a4
  c5 : W.cell? ⟨b, 5, none⟩ = some a5
  c6 : W.cell? ⟨b, 6, none⟩ = some a6
  c7 : W.cell? ⟨b, 7, none⟩ = some a7
  c8 : W.cell? ⟨b, 8, none⟩ = some a8
  c9 : W.cell? ⟨b, 9, none⟩ = some a9
  c10 : W.cell? ⟨b, 10, none⟩ = some a10
  c11 : W.cell? ⟨b, 11, none⟩ = some a11
  f0 : W.frozen? ⟨b, 0, none⟩ = false
  f1 : W.frozen? ⟨b, 1, none⟩ = false
  f2 : W.frozen? ⟨b, 2, none⟩ = false
  f3 : W.frozen? ⟨b, 3, none⟩ = false
  f4 : W.frozen? ⟨b, 4, none⟩ = false
  f5 : W.frozen? ⟨b, 5, none⟩ = false
  f6 : W.frozen? ⟨b, 6, none⟩ = false
  f7 : W.frozen? ⟨b, 7, none⟩ = false
  f8 : W.frozen? ⟨b, 8, none⟩ = false
  f9 : W.frozen? ⟨b, 9, none⟩ = false
  f10 : W.frozen? ⟨b, 10, none⟩ = false
  f11 : W.frozen? ⟨b, 11, none⟩ = false
theorem Whole.tw {W : World} {b : Nat} {t : TypeId} {a0 a1 a2 a3 a4 a5 a6 a7 a8 a9 a10 a11 : Value} (h : Whole W b t #[a0, a1, a2, a3, a4, a5, a6, a7, a8, a9, a10, a11]) : Tw W b a0 a1 a2 a3 a4 a5 a6 a7 a8 a9 a10 a11 :=
  ⟨h.cell 0, h.cell 1, h.cell 2, h.cell 3, h.cell 4, h.cell 5, h.cell 6, h.cell 7, h.cell 8, h.cell 9, h.cell 10, h.cell 11, h.frozen 0, h.frozen 1, h.frozen 2, h.frozen 3, h.frozen 4, h.frozen 5, h.frozen 6, h.frozen 7, h.frozen 8, h.frozen 9, h.frozen 10, h.frozen 11⟩

theorem freshPath_none (w : World) : Calls Try.prog 55 #[.slice none 0 0] w fun e w' => e = .returned (.slice none 0 0) ∧ w = w' := by
  have hnil := fun (w : World) => Go.Lib.run_eql_slice_nil (P := Try.prog) w 33 48 none 0 0 0 0 Try.underlying33
  go_enter Try.func55, Try.ntmps55
  go_wp2
  go_ret
  exact ⟨rfl, rfl⟩

/-- A list of one component, in a block of its own, all of it new. -/
def OneC (c : Cm GV) (s t : ByteArray) (m : Int) (w : World) (e : Ending) (w' : World) : Prop :=
  ∃ b AL AO cL cO, e = .returned (.slice (some ⟨b, 0, none⟩) 1 1) ∧ w.heap.size ≤ b ∧ Whole w' b 35 #[.int .u8 c.k, .slice none 0 0, .string s, .int .i64 c.i, .int .i64 c.j, .int .i64 m, .int .u8 c.v.kind, .int .i64 c.v.num, .string c.v.str, .slice AL c.v.items.length cL, .slice AO c.v.vals.length cO, .string t] ∧ (LstV (fun k => w.heap.size ≤ k) w' (.slice AL c.v.items.length cL) c.v.items ∧ ObjV (fun k => w.heap.size ≤ k) w' (.slice AO c.v.vals.length cO) c.v.keys c.v.vals) ∧ Below w.heap.size w w'
set_option maxRecDepth 100000 in
set_option maxHeartbeats 4000000 in
theorem alone_any (k i j : Nat) (v : GV) (s t : ByteArray) (m : Int) (AL AO : Option Addr) (cL cO : Nat) (w : World) (hv : Vl w v AL AO cL cO) (hg : v.weight ≤ 1000000000) (hs : s.size ≤ 281474976710656) (ht : t.size ≤ 281474976710656) :
    Calls Try.prog 42 #[.agg #[.int .u8 k, .slice none 0 0, .string s, .int .i64 i, .int .i64 j, .int .i64 m, .int .u8 v.kind, .int .i64 v.num, .string v.str, .slice AL v.items.length cL, .slice AO v.vals.length cO, .string t]] w (OneC ⟨k, i, j, v⟩ s t m w) := by
  have H0 := Lib.hid (Whole.new w 35 #[.int .u8 k, .slice none 0 0, .string s, .int .i64 i, .int .i64 j, .int .i64 m, .int .u8 v.kind, .int .i64 v.num, .string v.str, .slice AL v.items.length cL, .slice AO v.vals.length cO, .string t])
  have HV := Lib.hid hv
  have HG := Lib.hid hg
  clear hv hg
  go_enter Try.func42, Try.ntmps42
  go_wp2_with (first
    | (go_at_call 55; refine (freshPath_none _).mono ?_; rintro e w1 ⟨rfl, rfl⟩)
    | (go_at_call 37; ((with_reducible refine (call_clone s _ hs).mono ?_); rintro e w1 ⟨rfl, hb⟩; have H1 := Lib.hid (H0.out.below hb H0.out.lt); have B1 := Lib.hid ((below_alloc w _).trans (hb.mono (by simp))); obtain ⟨a0, a1, a2, a3, a4, a5, a6, a7, a8, a9, a10, a11, f0, f1, f2, f3, f4, f5, f6, f7, f8, f9, f10, f11⟩ := H1.out.tw; clear hb))
    | (go_at_call 37; ((with_reducible refine (call_clone t _ ht).mono ?_); rintro e w2 ⟨rfl, hb⟩; have H2 := Lib.hid (show Whole w2 w.heap.size 35 #[.int .u8 k, .slice none 0 0, .string s, .int .i64 i, .int .i64 j, .int .i64 m, .int .u8 v.kind, .int .i64 v.num, .string v.str, .slice AL v.items.length cL, .slice AO v.vals.length cO, .string t] from (H1.out.put 2 (.string s)).below hb (H1.out.put 2 (.string s)).lt); have B2 := Lib.hid ((B1.out.setCell (p := ⟨w.heap.size, 2, none⟩) (Nat.le_refl _) (.string s)).trans (hb.mono (by rw [size_set]; exact B1.out.size))); clear a0 a1 a2 a3 a4 a5 a6 a7 a8 a9 a10 a11 f0 f1 f2 f3 f4 f5 f6 f7 f8 f9 f10 f11; obtain ⟨a0, a1, a2, a3, a4, a5, a6, a7, a8, a9, a10, a11, f0, f1, f2, f3, f4, f5, f6, f7, f8, f9, f10, f11⟩ := H2.out.tw; clear hb))
    | (go_at_call 38; refine (val_Copy _ _ v _ (HV.out.later (B2.out.setCell (p := ⟨w.heap.size, 11, none⟩) (Nat.le_refl _) (.string t))).val HG.out).mono ?_; rintro e w3 ⟨v', rfl, ⟨L', O', rfl, hL, hO⟩, hb⟩; obtain ⟨BL, dL, rfl⟩ := lst_form hL; obtain ⟨BO, dO, rfl⟩ := obj_form hO; have H3 := Lib.hid (show Whole w3 w.heap.size 35 #[.int .u8 k, .slice none 0 0, .string s, .int .i64 i, .int .i64 j, .int .i64 m, .int .u8 v.kind, .int .i64 v.num, .string v.str, .slice AL v.items.length cL, .slice AO v.vals.length cO, .string t] from (H2.out.put 11 (.string t)).below hb (H2.out.put 11 (.string t)).lt); have B3 := Lib.hid ((B2.out.setCell (p := ⟨w.heap.size, 11, none⟩) (Nat.le_refl _) (.string t)).trans (hb.mono (by rw [size_set]; exact B2.out.size))); have N3 := Lib.hid (And.intro hL hO); have S2 := Lib.hid (show w.heap.size < (w2.setCell ⟨w.heap.size, 11, none⟩ (.string t)).heap.size from (H2.out.put 11 (.string t)).lt); clear a0 a1 a2 a3 a4 a5 a6 a7 a8 a9 a10 a11 f0 f1 f2 f3 f4 f5 f6 f7 f8 f9 f10 f11; obtain ⟨a0, a1, a2, a3, a4, a5, a6, a7, a8, a9, a10, a11, f0, f1, f2, f3, f4, f5, f6, f7, f8, f9, f10, f11⟩ := H3.out.tw; clear hb hL hO))
  go_ret
  have hfar : ∀ (o : Obj) (b : Nat), (w2.setCell ⟨w.heap.size, 11, none⟩ (.string t)).heap.size ≤ b → b < w3.heap.size → ((((((w3.setCell ⟨w.heap.size, 6, none⟩ (.int .u8 v.kind)).setCell ⟨w.heap.size, 7, none⟩ (.int .i64 v.num)).setCell ⟨w.heap.size, 8, none⟩ (.string v.str)).setCell ⟨w.heap.size, 9, none⟩ (.slice BL v.items.length dL)).setCell ⟨w.heap.size, 10, none⟩ (.slice BO v.vals.length dO)).alloc o).heap[b]? = w3.heap[b]? := fun o b hk hl => by
    have hne : b ≠ w.heap.size := by have := S2.out; omega
    rw [Below.heap_alloc _ _ _ (by simpa [World.setCell] using hl), Below.heap_setCell _ _ _ _ hne, Below.heap_setCell _ _ _ _ hne, Below.heap_setCell _ _ _ _ hne, Below.heap_setCell _ _ _ _ hne, Below.heap_setCell _ _ _ _ hne]
  have hsz : w.heap.size ≤ w3.heap.size := B3.out.size
  refine ⟨_, BL, BO, dL, dO, rfl, hsz, ?_, ⟨N3.out.1.keep (fun b hk hl => hfar _ b hk hl) (fun b hk _ => by have := S2.out; omega), N3.out.2.keep (fun b hk hl => hfar _ b hk hl) (fun b hk _ => by have := S2.out; omega)⟩, ?_⟩
  · have h := Whole.new (((((w3.setCell ⟨w.heap.size, 6, none⟩ (.int .u8 v.kind)).setCell ⟨w.heap.size, 7, none⟩ (.int .i64 v.num)).setCell ⟨w.heap.size, 8, none⟩ (.string v.str)).setCell ⟨w.heap.size, 9, none⟩ (.slice BL v.items.length dL)).setCell ⟨w.heap.size, 10, none⟩ (.slice BO v.vals.length dO)) 35 #[.int .u8 k, .slice none 0 0, .string s, .int .i64 i, .int .i64 j, .int .i64 m, .int .u8 v.kind, .int .i64 v.num, .string v.str, .slice BL v.items.length dL, .slice BO v.vals.length dO, .string t]
    rw [size_set, size_set, size_set, size_set, size_set] at h
    exact h
  · exact (((((B3.out.setCell (p := ⟨w.heap.size, 6, none⟩) (Nat.le_refl _) _).setCell (p := ⟨w.heap.size, 7, none⟩) (Nat.le_refl _) _).setCell (p := ⟨w.heap.size, 8, none⟩) (Nat.le_refl _) _).setCell (p := ⟨w.heap.size, 9, none⟩) (Nat.le_refl _) _).setCell (p := ⟨w.heap.size, 10, none⟩) (Nat.le_refl _) _).alloc (by simpa [World.setCell] using hsz) _
end Go.Proofs.Ythnljaheplhbkaa

/- Parts of lists in memory, cut with three indexes; a list with one more, with one less. -/
namespace Go.Proofs.Ythnljaheplhbkaa
open Go Go.RowKit
set_option linter.unusedVariables false
set_option linter.unusedSimpArgs false

section
variable {P : Program} {w : World}
/-- An append to a row of the call's own, of cells that lie somewhere, or of nothing: within a region that draws its order. -/
theorem step_append_from {ops : Array Oper} {o : Oper} {a : Act} {K : Act → World → Prop} {Q : Exit → Act → World → Prop} {E : Prop} (hgd : o.guard = none) (s x : Operand) (t : TypeId)
    (ho : o.op = .call { callee := .builtin .append, args := #[s, x], argTypes := #[t, t] })
    (base : Nat) (e : TypeId) (i : TypeInfo) (z : Value) (size bytes : Nat) (ht : P.underlying t = some (.slice e)) (hi : P.info? e = some i) (hz : i.zero = some z)
    (hsize : i.size = size) (hby : i.bytes = bytes) (hzs : z.cells.size = size) (hsz : 0 < size)
    (v : Value) (n : Nat) (xs : List Value) (hs : a.eval s = v) (hown : w.ownsRow base e size v n xs)
    (A : Option Addr) (m c : Nat) (news : List Value) (hx : a.eval x = .slice A m c) (hA : A = none → m = 0) (hl : news.length = m * size) (hnews : ∀ ad, A = some ad → ∀ j u, news[j]? = some u → w.cell? (ad.add j) = some u) (h1 : ∀ u ∈ news, u.oneCell' = true)
    (h63 : n + m ≤ maxLen) (hbytes : (n + m) * bytes ≤ 140737488355328) (hbase : base ≤ w.heap.size)
    (h : ∀ v' w', w'.ownsRow base e size v' (n + m) (xs ++ news) → w.grownBy w' v.ownBlock → K (a.put o.dst v') w') :
    if Region.wanted o (yielded ops a.tmps) = true then Oper.wp P o a w K Q else E := by
  have hw : Region.wanted o (yielded ops a.tmps) = true := by simp [Region.wanted, hgd]
  rw [if_pos hw]
  have hrun : ∃ v' w', (Builtin.append_ #[t, t] o.type #[v, .slice A m c]).run P w = .ok v' w' ∧ w'.ownsRow base e size v' (n + m) (xs ++ news) ∧ w.grownBy w' v.ownBlock := by
    cases A with
    | none =>
      obtain rfl := hA rfl
      obtain rfl : news = [] := List.eq_nil_of_length_eq_zero (by simpa using hl)
      refine ⟨v, w, ?_, by simpa using hown, ⟨rfl, rfl, rfl, Nat.le_refl _, fun _ _ _ => rfl⟩⟩
      rcases hown.2 with ⟨rfl, rfl⟩ | ⟨_, _, _, rfl, _, _, hnc, _⟩ <;> simp [Builtin.append_, run_underlying ht, sizeOf, typeInfo, Builtin.lenOf, Builtin.firstCells, storeCells, *]
    | some ad =>
      obtain ⟨v', w', hr, h2, h3, _, _⟩ := run_append_own_at (P := P) w base t o.type e i z size bytes ht hi hz hsize hby hzs hsz v n xs hown ad m c news hl (hnews ad rfl) h1 h63 hbytes hbase
      exact ⟨v', w', hr, h2, h3⟩
  obtain ⟨v', w', hr, h2, h3⟩ := hrun
  unfold Oper.wp execOp
  simp only [ho, resolve, invoke, builtin, Sem.run_bind, Sem.run_pure, Result.andThen_ok, List.map_toArray, List.map_cons, List.map_nil, hs, hx, hr]
  exact h v' w' h2 h3
/-- What an append to a slice that is full comes to. -/
theorem run_append_full (t ty e : TypeId) (i : TypeInfo) (z : Value) (size bytes : Nat) (ht : P.underlying t = some (.slice e)) (hi : P.info? e = some i) (hz : i.zero = some z)
    (hsize : i.size = size) (hby : i.bytes = bytes) (hzs : z.cells.size = size) (hsz : 0 < size)
    (ao : Option Addr) (n cap : Nat) (olds : List Value) (hnone : ao = none → n = 0 ∧ cap = 0) (hlo : olds.length = n * size) (holds : ∀ b, ao = some b → ∀ j u, olds[j]? = some u → w.cell? (b.add j) = some u)
    (ad : Addr) (m c : Nat) (news : List Value) (hn : news.length = m * size) (hc : ∀ j u, news[j]? = some u → w.cell? (ad.add j) = some u) (h1c : ∀ u ∈ news, u.oneCell' = true)
    (hfull : cap < n + m) (b1 : n + m ≤ maxLen) (b2 : (n + m) * bytes ≤ 140737488355328) :
    ∃ v' w', (Builtin.append_ #[t, t] ty #[.slice ao n cap, .slice (some ad) m c]).run P w = .ok v' w' ∧ w'.ownsRow w.heap.size e size v' (n + m) (olds ++ news) ∧ w.grownBy w' none := by
  cases ao with
  | some b =>
    obtain ⟨v', w', hrun, r1, r2⟩ := run_append_arg_grows (P := P) w t ty e i z size bytes ht hi hz hsize hby hzs hsz b n cap olds hlo (holds b rfl) ad m c news hn hc hfull b1 b2
    exact ⟨v', w', hrun, r1, r2⟩
  | none =>
    obtain ⟨rfl, rfl⟩ := hnone rfl
    obtain rfl : olds = [] := List.eq_nil_of_length_eq_zero (by simpa using hlo)
    obtain ⟨v', w', hrun, r1, r2, _⟩ := run_append_own (P := P) w w.heap.size t ty e i z size bytes ht hi hz hsize hby hzs hsz (.slice none 0 0) 0 [] (World.ownsRow_nil w _ e size) ad m c news hn hc h1c b1 b2 (Nat.le_refl _)
    exact ⟨v', w', hrun, r1, r2⟩
theorem step_append_full {ops : Array Oper} {o : Oper} {a : Act} {K : Act → World → Prop} {Q : Exit → Act → World → Prop} {E : Prop} (hgd : o.guard = none) (s x : Operand) (t : TypeId)
    (ho : o.op = .call { callee := .builtin .append, args := #[s, x], argTypes := #[t, t] })
    (e : TypeId) (i : TypeInfo) (z : Value) (size bytes : Nat) (ht : P.underlying t = some (.slice e)) (hi : P.info? e = some i) (hz : i.zero = some z)
    (hsize : i.size = size) (hby : i.bytes = bytes) (hzs : z.cells.size = size) (hsz : 0 < size)
    (ao : Option Addr) (n cap : Nat) (olds : List Value) (hs : a.eval s = .slice ao n cap) (hnone : ao = none → n = 0 ∧ cap = 0) (hlo : olds.length = n * size) (holds : ∀ b, ao = some b → ∀ j u, olds[j]? = some u → w.cell? (b.add j) = some u)
    (ad : Addr) (m c : Nat) (news : List Value) (hx : a.eval x = .slice (some ad) m c) (hn : news.length = m * size) (hc : ∀ j u, news[j]? = some u → w.cell? (ad.add j) = some u) (h1c : ∀ u ∈ news, u.oneCell' = true)
    (hfull : cap < n + m) (b1 : n + m ≤ maxLen) (b2 : (n + m) * bytes ≤ 140737488355328)
    (h : ∀ v' w', w'.ownsRow w.heap.size e size v' (n + m) (olds ++ news) → w.grownBy w' none → K (a.put o.dst v') w') :
    if Region.wanted o (yielded ops a.tmps) = true then Oper.wp P o a w K Q else E := by
  have hw : Region.wanted o (yielded ops a.tmps) = true := by simp [Region.wanted, hgd]
  rw [if_pos hw]
  obtain ⟨v', w', hr, h2, h3⟩ := run_append_full (P := P) (w := w) t o.type e i z size bytes ht hi hz hsize hby hzs hsz ao n cap olds hnone hlo holds ad m c news hn hc h1c hfull b1 b2
  unfold Oper.wp execOp
  simp only [ho, resolve, invoke, builtin, Sem.run_bind, Sem.run_pure, Result.andThen_ok, List.map_toArray, List.map_cons, List.map_nil, hs, hx, hr]
  exact h v' w' h2 h3
end

/-- A slice's address, and where a part of it lies. -/
def partAt (A : Option Addr) (a b : Nat) : Option Addr := if b = a then A else A.map fun p => ⟨p.block, p.off + a * 5, none⟩
theorem lst_part {ok : Nat → Prop} {W : World} {A : Option Addr} {c : Nat} {l : List GV} (h : LstV ok W (.slice A l.length c) l) (a b : Nat) (hab : a ≤ b) (hb : b ≤ l.length) : LstV ok W (.slice (partAt A a b) (b - a) (b - a)) ((l.drop a).take (b - a)) := by
  have hlen : ((l.drop a).take (b - a)).length = b - a := by simp; omega
  rcases h with ⟨rfl, e⟩ | ⟨b', o', c', e, h1, h2, hK, hE⟩
  · cases e
    simp at hb
    subst hb
    obtain rfl : a = 0 := by omega
    exact .inl ⟨by simp, by simp [partAt]⟩
  · simp only [Value.slice.injEq] at e
    obtain ⟨rfl, _, rfl⟩ := e
    by_cases hba : b = a
    · subst hba
      exact .inr ⟨b', o', 0, by simp [partAt], by simp, by decide, hK, by simp [GV.els]⟩
    · refine .inr ⟨b', o' + a * 5, b - a, by simp [partAt, hba, hlen], by omega, by omega, hK, GV.els_of fun i g hi => ?_⟩
      rw [List.getElem?_take] at hi
      split at hi
      · rw [List.getElem?_drop] at hi
        have := GV.els_get hE hi
        rwa [show o' + a * 5 + i * 5 = o' + (a + i) * 5 by omega]
      · cases hi
theorem lst_addr {ok : Nat → Prop} {W : World} {A : Option Addr} {n c : Nat} {l : List GV} (h : LstV ok W (.slice A n c) l) : (A = none → n = 0 ∧ c = 0) ∧ ∀ p, A = some p → p.spot = none := by
  rcases h with ⟨rfl, e⟩ | ⟨b', o', c', e, h1, h2, hK, hE⟩
  · cases e; exact ⟨fun _ => ⟨rfl, rfl⟩, fun p h => by cases h⟩
  · simp only [Value.slice.injEq] at e
    obtain ⟨rfl, _, rfl⟩ := e
    exact ⟨(fun h => by cases h), (fun p h => by cases h; rfl)⟩
end Go.Proofs.Ythnljaheplhbkaa

/- with, without: a list with one more, with one less. -/
namespace Go.Proofs.Ythnljaheplhbkaa
open Go Go.RowKit
set_option linter.unusedVariables false
set_option linter.unusedSimpArgs false

theorem RowL.app {ok : Nat → Prop} {W : World} : ∀ {l : List GV} {xs : List Value} {l' : List GV} {xs' : List Value}, RowL ok W l xs → RowL ok W l' xs' → RowL ok W (l ++ l') (xs ++ xs')
  | [], _, _, _, h, h' => by rw [show _ = ([] : List Value) from h]; exact h'
  | _ :: _, _, _, _, ⟨L, O, ys, e, hL, hO, hr⟩, h' => ⟨L, O, ys ++ _, by rw [e, List.append_assoc], hL, hO, RowL.app hr h'⟩
/-- A list's cells, as they lie. -/
structure Lc (ok : Nat → Prop) (W : World) (A : Option Addr) (l : List GV) (xs : List Value) : Prop where
  row : RowL ok W l xs
  len : xs.length = l.length * 5
  cells : ∀ ad, A = some ad → ad.block < W.heap.size ∧ ∀ j u, xs[j]? = some u → W.cell? (ad.add j) = some u
  one : ∀ u ∈ xs, u.oneCell' = true
theorem Lc.of {ok : Nat → Prop} {W : World} {A : Option Addr} {n c : Nat} {l : List GV} (h : LstV ok W (.slice A n c) l) : ∃ xs, Lc ok W A l xs := by
  rcases h with ⟨rfl, e⟩ | ⟨b', o', c', e, h1, h2, hK, hE⟩
  · cases e
    exact ⟨[], rfl, rfl, (fun ad h => by cases h), (fun u h => by cases h)⟩
  · simp only [Value.slice.injEq] at e
    obtain ⟨rfl, _, rfl⟩ := e
    obtain ⟨xs, hr, hl, hc, h1⟩ := els_row hE
    refine ⟨xs, hr, hl, fun ad h => ?_, h1⟩
    cases h
    refine ⟨hK.lt, fun j u hj => ?_⟩
    have e2 : (⟨b', o', none⟩ : Addr).add j = ⟨b', o' + j, none⟩ := by unfold Addr.add; split <;> simp_all
    rw [e2]
    exact hc j u hj
theorem add_block (a : Addr) (j : Nat) : (a.add j).block = a.block := by unfold Addr.add; split <;> rfl
theorem Lc.later {ok : Nat → Prop} {W W' : World} {A : Option Addr} {l : List GV} {xs : List Value} (h : Lc ok W A l xs) (hb : Below W.heap.size W W') : Lc ok W' A l xs :=
  ⟨h.row.keep (From.of_below hb) (fun _ h _ => h), h.len, fun ad e => ⟨Nat.lt_of_lt_of_le (h.cells ad e).1 hb.size, fun j u hj => (hb.cell (by rw [add_block]; exact (h.cells ad e).1)).trans ((h.cells ad e).2 j u hj)⟩, h.one⟩
theorem own_mono {w : World} {base base' : Nat} {e : TypeId} {size : Nat} {v : Value} {n : Nat} {xs : List Value} (h : w.ownsRow base e size v n xs) (hb : base' ≤ base) : w.ownsRow base' e size v n xs :=
  ⟨h.1, h.2.imp id fun ⟨g, cap, cur, h1, h2, h3⟩ => ⟨g, cap, cur, h1, Nat.le_trans hb h2, h3⟩⟩
/-- The row that the call makes. -/
structure Sl (w W : World) (v : Value) (n : Nat) (l : List GV) (xs : List Value) : Prop where
  below : Below w.heap.size w W
  own : W.ownsRow w.heap.size 31 5 v n xs
  row : RowL (fun k => k < w.heap.size) W l xs
theorem Sl.first {w W W' : World} {v' : Value} {n : Nat} {l l' : List GV} {xs news : List Value} (hb : Below w.heap.size w W) (hl : RowL (fun k => k < w.heap.size) W l xs) (hn : RowL (fun k => k < w.heap.size) W l' news)
    (hown : W'.ownsRow W.heap.size 31 5 v' n (xs ++ news)) (hg : W.grownBy W' none) : Sl w W' v' n (l ++ l') (xs ++ news) := by
  have hF : From (fun k => k < w.heap.size) W W' := fun k _ hlt => hg.block k hlt (fun e => by cases e)
  exact ⟨hb.grown hg hb.size (fun k e => by cases e), own_mono hown hb.size, (hl.app hn).keep hF (fun _ h _ => h)⟩
theorem Sl.step {w W W' : World} {v : Value} {n : Nat} {l : List GV} {xs : List Value} (h : Sl w W v n l xs) (hb : Below W.heap.size W W') : Sl w W' v n l xs :=
  ⟨h.below.trans (hb.mono h.below.size), own_below h.own hb, h.row.keep (.of_below hb) (fun _ h _ => h)⟩
theorem Sl.app {w W W' : World} {v v' : Value} {n m : Nat} {l l' : List GV} {xs news : List Value} (h : Sl w W v n l xs) (hr : RowL (fun k => k < w.heap.size) W l' news)
    (hown : W'.ownsRow w.heap.size 31 5 v' (n + m) (xs ++ news)) (hg : W.grownBy W' v.ownBlock) : Sl w W' v' (n + m) (l ++ l') (xs ++ news) := by
  have hF : From (fun k => k < w.heap.size) W W' := fun k hk hlt => hg.block k hlt (fun e => by have := (h.own.lt k e.symm).1; omega)
  exact ⟨h.below.grown hg h.below.size (fun k hk => (h.own.lt k hk).1), hown, (h.row.app hr).keep hF (fun _ h _ => h)⟩
theorem Sl.done {w W : World} {v : Value} {l : List GV} {xs : List Value} (h : Sl w W v l.length l xs) : LstV (fun _ => True) W v l :=
  LstV.of_own h.own (h.row.keep (From.refl _ _) fun _ _ _ => trivial) fun _ _ => trivial

/-- A list, new or not. -/
def ListOut (l : List GV) (w : World) (e : Ending) (w' : World) : Prop := ∃ A c, e = .returned (.slice A l.length c) ∧ LstV (fun _ => True) w' (.slice A l.length c) l ∧ Below w.heap.size w w'
theorem listOut_of {l : List GV} {w wb w' : World} {v : Value} {n : Nat} {xs : List Value} (hw : Below w.heap.size w wb) (h : Sl wb w' v n l xs) (hn : n = l.length) : ListOut l w (.returned v) w' := by
  subst hn
  have hd := h.done
  obtain ⟨A, c, rfl⟩ := lst_form hd
  exact ⟨A, c, rfl, hd, hw.trans (h.below.mono hw.size)⟩

theorem run_append_lst {W : World} (ty : TypeId) (A A' : Option Addr) (n m : Nat) (l1 l2 : List GV) (h1 : LstV (fun _ => True) W (.slice A n n) l1) (h2 : LstV (fun _ => True) W (.slice A' m m) l2) (hn : n + m ≤ 1000000000) :
    ∃ B d w', (Builtin.append_ #[28, 28] ty #[.slice A n n, .slice A' m m]).run Try.prog W = .ok (.slice B (n + m) d) w' ∧ LstV (fun _ => True) w' (.slice B (n + m) d) (l1 ++ l2) ∧ Below W.heap.size W w' := by
  obtain ⟨hA0, _⟩ := lst_addr h1
  obtain ⟨hA0', _⟩ := lst_addr h2
  obtain ⟨_, _, he, hc1, hc2, _⟩ := h1.form
  obtain ⟨_, _, he', hc1', hc2', _⟩ := h2.form
  simp only [Value.slice.injEq] at he he'
  obtain ⟨rfl, hnl, hcn⟩ := he
  obtain ⟨rfl, hml, hcm⟩ := he'
  obtain ⟨i1, hi1, hy0, hy1, hy2⟩ := info_parts infoVal
  obtain ⟨xs1, g1⟩ := Lc.of (h1.keep (ok' := fun k => k < W.heap.size) (From.refl _ _) (fun _ _ h => h))
  obtain ⟨xs2, g2⟩ := Lc.of (h2.keep (ok' := fun k => k < W.heap.size) (From.refl _ _) (fun _ _ h => h))
  by_cases hm : m = 0
  · obtain rfl : l2 = [] := List.eq_nil_of_length_eq_zero (by omega)
    subst hm
    refine ⟨A, n, W, ?_, by simpa using h1, Below.refl _ _⟩
    exact run_append_nothing W 28 28 ty 31 i1 Try.underlying28 hi1 A n n (Nat.le_refl _) (.slice A' 0 0) ⟨.inl ⟨_, Try.underlying28⟩, fun w' => by simp [Builtin.lenOf], by cases A' <;> simp [Builtin.firstCells, loadCells, loadCellsFrom], by cases A' <;> simp [Builtin.firstCells, loadCells, loadCellsFrom], by simp, fun u hu => by cases hu⟩
  · cases A' with
    | none => have := hA0' rfl; omega
    | some ad =>
      obtain ⟨v', w', hr, hown, hg⟩ := run_append_full (P := Try.prog) (w := W) 28 ty 31 i1 _ 5 80 Try.underlying28 hi1 hy0 hy1 hy2 rfl (by decide) A n n xs1 (fun e => ⟨(hA0 e).1, (hA0 e).1⟩) (by rw [g1.len, ← hnl]) (fun b e => (g1.cells b e).2) ad m m xs2 (by rw [g2.len, ← hml]) ((g2.cells ad rfl).2) g2.one (by omega) (by unfold maxLen; omega) (by omega)
      have hs := Sl.first (Below.refl _ W) g1.row g2.row hown hg
      rw [show n + m = (l1 ++ l2).length by simp; omega] at hs ⊢
      have hd := hs.done
      obtain ⟨B, d, rfl⟩ := lst_form hd
      exact ⟨B, d, w', hr, hd, hs.below⟩
theorem wpList_append_lst {ops : Array Oper} {rest : List Oper} {o : Oper} {a : Act} {Q : Exit → Act → World → Prop} {w : World} (hgd : o.guard = none) (s x : Operand)
    (ho : o.op = .call { callee := .builtin .append, args := #[s, x], argTypes := #[28, 28] })
    (A A' : Option Addr) (n m : Nat) (l1 l2 : List GV) (hs : a.eval s = .slice A n n) (hx : a.eval x = .slice A' m m) (h1 : LstV (fun _ => True) w (.slice A n n) l1) (h2 : LstV (fun _ => True) w (.slice A' m m) l2) (hn : n + m ≤ 1000000000)
    (h : ∀ B d w', LstV (fun _ => True) w' (.slice B (n + m) d) (l1 ++ l2) → Below w.heap.size w w' → wpList Try.prog ops Q rest (a.put o.dst (.slice B (n + m) d)) w') : wpList Try.prog ops Q (o :: rest) a w := by
  refine wpList_plain hgd fun K hK => ?_
  obtain ⟨B, d, w', hr, h3, h4⟩ := run_append_lst o.type A A' n m l1 l2 h1 h2 hn
  unfold Oper.wp execOp
  simp only [ho, resolve, invoke, builtin, Sem.run_bind, Sem.run_pure, Result.andThen_ok, List.map_toArray, List.map_cons, List.map_nil, hs, hx, hr]
  exact hK _ _ (h B d w' h3 h4)

end Go.Proofs.Ythnljaheplhbkaa

/- Check, done, Do: what is done to a list. -/
namespace Go.Proofs.Ythnljaheplhbkaa
open Go Go.RowKit
set_option linter.unusedVariables false
set_option linter.unusedSimpArgs false

def withinB (i n : Int) : Bool := decide (0 ≤ i ∧ i < n)
/-- Check's answer. -/
def chk (n : Int) (k : Nat) (i j : Int) : Int :=
  if k = 4 then (if 0 ≤ i ∧ i ≤ n then 0 else 32) else if k = 5 ∨ k = 6 then (if withinB i n = true then 0 else 32) else if k = 7 then (if (withinB i n && withinB j n) = true then 0 else 32) else 31

def ListIn (l : List GV) (A : Option Addr) (c : Nat) (w : World) : Prop := LstV (fun _ => True) w (.slice A l.length c) l
theorem ListIn.later {l : List GV} {A : Option Addr} {c : Nat} {w w' : World} (h : ListIn l A c w) (hb : Below w.heap.size w w') : ListIn l A c w' := LstV.keep (From.of_below hb) (fun _ h _ => h) h
/-- What Do answers where it may be done. -/
def DoOut (l : List GV) (w : World) (e : Ending) (w' : World) : Prop := ∃ A c, e = .returned (.tuple #[.slice A l.length c, .int .u16 0]) ∧ LstV (fun k => w.heap.size ≤ k) w' (.slice A l.length c) l ∧ Below w.heap.size w w'
theorem val_field3 (N : Nat) : ∀ (BL BO : Option Addr) (dL dO : Nat) (w : World), (Instr.field 31 (.agg #[.int .u8 0, .int .i64 0, .string ⟨#[]⟩, .slice BL N dL, .slice BO 0 dO]) 3).run Try.prog w = .ok (.slice BL N dL) w := fun _ _ _ _ _ => by kernel_rfl
theorem chk_ok {n k i j : Nat} {g : GV} (h : okC n (⟨k, i, j, g⟩ : Cm GV)) : chk n k i j = 0 := by
  rcases h with ⟨hk, hi⟩ | ⟨hk | hk, hi⟩ | ⟨hk, hi⟩ <;> simp only at hk hi <;> subst hk <;> simp [chk, withinB] <;> omega
end Go.Proofs.Ythnljaheplhbkaa
