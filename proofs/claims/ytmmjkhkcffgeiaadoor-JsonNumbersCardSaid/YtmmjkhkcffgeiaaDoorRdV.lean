/- json's reader: whatever value stands there. -/
import Derived.Test.YtmmjkhkcffgeiaaDoorRdS
namespace Go.Proofs.YtmmjkhkcffgeiaaDoor
open Go Go.RowKit Go.Shelf
set_option linter.unusedVariables false
set_option linter.unusedSimpArgs false

/-- What way hands out for the byte that stands there. -/
def ways : List (Int × Nat) := [(110, 65), (116, 66), (102, 67), (45, 68), (48, 68), (49, 68), (50, 68), (51, 68), (52, 68), (53, 68), (54, 68), (55, 68), (56, 68), (57, 68), (34, 69), (91, 70), (123, 71)]
theorem rest_lt {s : ByteArray} {i : Nat} {c : UInt8} {r : List UInt8} (hq : rest s i = c :: r) (hi : i ≤ s.size) : ∃ h : i < s.size, s[i] = c := by
  have hl := rest_len (p := [c]) (r := r) hq hi
  have h : i < s.size := by simp at hl; omega
  rw [rest_cons h] at hq
  exact ⟨h, (List.cons.inj hq).1⟩
theorem c_first_is (R : Nat) (s : ByteArray) (i d : Nat) (W : World) (h : At W R s i d) (c : UInt8) (r : List UInt8) (hq : rest s i = c :: r) (n : Int) (hn : (c.toNat : Int) = n) :
    Calls Tryd.prog 64 #[.pointer (some ⟨R, 0, none⟩)] W fun e w' => e = .returned (.int .u8 n) ∧ At w' R s i d ∧ Rd R W w' := by
  obtain ⟨hi, hc⟩ := rest_lt hq h.le
  have := c_first_ok R s i d W h hi
  rw [hc, hn] at this
  exact this
def WayOut (F R : Nat) (s : ByteArray) (i d : Nat) (W : World) (e : Ending) (w' : World) : Prop := e = .returned (.func (.func F) #[.pointer (some ⟨R, 0, none⟩)] #[]) ∧ At w' R s i d ∧ Rd R W w'
set_option maxHeartbeats 8000000 in
set_option maxRecDepth 100000 in
theorem r_way (R : Nat) (s : ByteArray) (i d : Nat) (W : World) (h : At W R s i d) (c : UInt8) (r : List UInt8) (hq : rest s i = c :: r) (F : Nat) (ht : ((c.toNat : Int), F) ∈ ways) :
    Calls Tryd.prog 56 #[.pointer (some ⟨R, 0, none⟩)] W (WayOut F R s i d W) := by
  obtain ⟨n, hn⟩ : ∃ n : Int, (c.toNat : Int) = n := ⟨_, rfl⟩
  have HC := c_first_is R s i d W h c r hq n hn
  rw [hn] at ht
  clear h hq hn
  simp only [ways, List.mem_cons, Prod.mk.injEq, List.not_mem_nil, or_false] at ht
  rcases ht with ⟨rfl, rfl⟩ | ⟨rfl, rfl⟩ | ⟨rfl, rfl⟩ | ⟨rfl, rfl⟩ | ⟨rfl, rfl⟩ | ⟨rfl, rfl⟩ | ⟨rfl, rfl⟩ | ⟨rfl, rfl⟩ | ⟨rfl, rfl⟩ | ⟨rfl, rfl⟩ | ⟨rfl, rfl⟩ | ⟨rfl, rfl⟩ | ⟨rfl, rfl⟩ | ⟨rfl, rfl⟩ | ⟨rfl, rfl⟩ | ⟨rfl, rfl⟩ | ⟨rfl, rfl⟩
  all_goals (
    have HC := Lib.hid HC
    go_enter Tryd.func56, Tryd.ntmps56
    go_wp2_with (go_at_call 64; refine HC.out.mono ?_; rintro e W1 ⟨rfl, hA, hR⟩; have H1 := Lib.hid (And.intro hA hR); clear hA hR)
    go_ret
    exact ⟨rfl, H1.out.1, H1.out.2⟩)
def waysB : List Int := [110, 116, 102, 45, 48, 49, 50, 51, 52, 53, 54, 55, 56, 57, 34, 91, 123]
set_option maxHeartbeats 8000000 in
set_option maxRecDepth 100000 in
theorem r_way_other (R : Nat) (s : ByteArray) (i d : Nat) (W : World) (h : At W R s i d) (c : UInt8) (r : List UInt8) (hq : rest s i = c :: r) (hno : ∀ b ∈ waysB, (c.toNat : Int) ≠ b) :
    Calls Tryd.prog 56 #[.pointer (some ⟨R, 0, none⟩)] W (Bad R W) := by
  obtain ⟨n, hn⟩ : ∃ n : Int, (c.toNat : Int) = n := ⟨_, rfl⟩
  have HC := Lib.hid (c_first_is R s i d W h c r hq n hn)
  rw [hn] at hno
  clear h hq hn
  have n110 : (n == 110) = false := by simpa using hno 110 (by simp [waysB])
  have n116 : (n == 116) = false := by simpa using hno 116 (by simp [waysB])
  have n102 : (n == 102) = false := by simpa using hno 102 (by simp [waysB])
  have n45 : (n == 45) = false := by simpa using hno 45 (by simp [waysB])
  have n48 : (n == 48) = false := by simpa using hno 48 (by simp [waysB])
  have n49 : (n == 49) = false := by simpa using hno 49 (by simp [waysB])
  have n50 : (n == 50) = false := by simpa using hno 50 (by simp [waysB])
  have n51 : (n == 51) = false := by simpa using hno 51 (by simp [waysB])
  have n52 : (n == 52) = false := by simpa using hno 52 (by simp [waysB])
  have n53 : (n == 53) = false := by simpa using hno 53 (by simp [waysB])
  have n54 : (n == 54) = false := by simpa using hno 54 (by simp [waysB])
  have n55 : (n == 55) = false := by simpa using hno 55 (by simp [waysB])
  have n56 : (n == 56) = false := by simpa using hno 56 (by simp [waysB])
  have n57 : (n == 57) = false := by simpa using hno 57 (by simp [waysB])
  have n34 : (n == 34) = false := by simpa using hno 34 (by simp [waysB])
  have n91 : (n == 91) = false := by simpa using hno 91 (by simp [waysB])
  have n123 : (n == 123) = false := by simpa using hno 123 (by simp [waysB])
  clear hno
  go_enter Tryd.func56, Tryd.ntmps56
  go_wp2_with (go_at_call 64; refine HC.out.mono ?_; rintro e W1 ⟨rfl, hA, hR⟩; have H1 := Lib.hid (And.intro hA hR); clear hA hR)
  exact panic_post rfl ⟨_, rfl, .inl rfl, H1.out.2⟩
set_option maxHeartbeats 4000000 in
set_option maxRecDepth 100000 in
theorem r_way_end (R : Nat) (s : ByteArray) (d : Nat) (W : World) (h : At W R s s.size d) :
    Calls Tryd.prog 56 #[.pointer (some ⟨R, 0, none⟩)] W (Bad R W) := by
  have HC := Lib.hid (c_first_bad R s d W h)
  clear h
  go_enter Tryd.func56, Tryd.ntmps56
  go_wp2_with (go_at_call 64; refine HC.out.mono ?_; rintro e W1 ⟨v, rfl, hv, hR⟩; have H1 := Lib.hid (And.intro hv hR); clear hv hR)
  exact panic_post rfl ⟨_, rfl, H1.out.1, H1.out.2⟩
/-- A value, by what way hands out. -/
theorem r_value_bad (m R : Nat) (s : ByteArray) (i d : Nat) (W : World) (h : At W R s i d) (hway : ∀ W1, At W1 R s i d → Calls Tryd.prog 56 #[.pointer (some ⟨R, 0, none⟩)] W1 (Bad R W1)) (hn : ¬ ∃ g r, VAt m (rest s i) g r) :
    Calls Tryd.prog 42 #[.pointer (some ⟨R, 0, none⟩)] W (ROut m R s i d W) := by
  have HC := Lib.hid (hway _ (alloc_at h (.cells #[.int .u8 0, .int .i64 0, .string ⟨#[]⟩, .slice none 0 0, .slice none 0 0] 31)))
  clear h hway
  go_enter Tryd.func42, Tryd.ntmps42
  go_wp2_with (go_at_call 56; refine HC.out.mono ?_; rintro e W1 ⟨v, rfl, hv, hR⟩; have H1 := Lib.hid (And.intro hv hR); clear hv hR)
  exact panic_post rfl (rout_bad hn ⟨_, rfl, H1.out.1, (Rd.alloc R W _).trans H1.out.2⟩)
set_option maxHeartbeats 4000000 in
set_option maxRecDepth 100000 in
theorem r_value_of (m R F : Nat) (eg : ∀ args w, (callFunc F args).run Tryd.prog w = .ok (.enter F args) w) (s : ByteArray) (i d : Nat) (W : World) (h : At W R s i d)
    (hway : ∀ W1, At W1 R s i d → Calls Tryd.prog 56 #[.pointer (some ⟨R, 0, none⟩)] W1 (WayOut F R s i d W1))
    (hF : ∀ W1, Rd R W W1 → At W1 R s i d → Calls Tryd.prog F #[.pointer (some ⟨R, 0, none⟩)] W1 (ROut m R s i d W1)) :
    Calls Tryd.prog 42 #[.pointer (some ⟨R, 0, none⟩)] W (ROut m R s i d W) := by
  have hlt := h.lt
  have HC := Lib.hid (hway _ (alloc_at h (.cells #[.int .u8 0, .int .i64 0, .string ⟨#[]⟩, .slice none 0 0, .slice none 0 0] 31)))
  have HF := Lib.hid hF
  clear h hway hF
  go_enter Tryd.func42, Tryd.ntmps42
  go_wp2_with (first
    | (go_at_call 56; refine HC.out.mono ?_; rintro e W1 ⟨rfl, hA, hR⟩; have H1 := Lib.hid (And.intro hA hR); clear hA hR)
    | (go_at_fn F; refine (HF.out _ ((Rd.alloc R W _).trans H1.out.2) H1.out.1).mono ?_; rintro e W2 (⟨g, j, v, hv, rfl, ⟨L, O, rfl, hL, hO⟩, hA, hR⟩ | ⟨hn, v, rfl, hv, hR⟩); rotate_left; exact panic_post rfl (rout_bad hn ⟨_, rfl, hv, ((Rd.alloc R W _).trans H1.out.2).trans hR⟩); obtain ⟨BL, dL, rfl⟩ := lst_form hL; obtain ⟨BO, dO, rfl⟩ := obj_form hO; have H2 := Lib.hid (And.intro hv (And.intro hL (And.intro hO (And.intro hA (And.intro hR (res_ahead (H1.out.2.trans hR) hlt)))))); have hx := H2.out.2.2.2.2.2.1; unfold zcs at hx; obtain ⟨c0, c1, c2, c3, c4, f0, f1, f2, f3, f4⟩ := hx.five; clear hx hv hL hO hA hR))
  have hx := H2.out.2.2.2.2.2.1
  unfold zcs at hx
  obtain ⟨d0, d1, d2, d3, d4, _⟩ := (whole_put5' hx (.int .u8 g.kind) (.int .i64 g.num) (.string g.str) (.slice BL g.items.length dL) (.slice BO g.vals.length dO)).five
  unfold put5 at d0 d1 d2 d3 d4
  refine bodyPost_ret (v := .agg #[.int .u8 g.kind, .int .i64 g.num, .string g.str, .slice BL g.items.length dL, .slice BO g.vals.length dO]) (by simp [results, Tryd.results42, go_sem, d0, d1, d2, d3, d4]) rfl ?_
  have hP : ∃ W5, W5 = put5 W2 W.heap.size (.int .u8 g.kind) (.int .i64 g.num) (.string g.str) (.slice BL g.items.length dL) (.slice BO g.vals.length dO) := ⟨_, rfl⟩
  obtain ⟨W5, hP⟩ := hP
  have hsz := H1.out.2.size
  have hF5 : From (fun k => W1.heap.size ≤ k) W2 W5 := fun k hk _ => by rw [hP]; exact put5_block _ _ _ _ _ _ _ _ (by simp at hsz; omega)
  have hA5 : At W5 R s j d := by rw [hP]; exact H2.out.2.2.2.1.put5 (by omega) _ _ _ _ _
  have hR5 : Rd R W W5 := by rw [hP]; exact H2.out.2.2.2.2.2.2.put5 (by omega) _ _ _ _ _
  have hL5 := H2.out.2.1.keep (ok' := fun k => W.heap.size ≤ k) hF5 fun k hk _ => by simp at hsz; omega
  have hO5 := H2.out.2.2.1.keep (ok' := fun k => W.heap.size ≤ k) hF5 fun k hk _ => by simp at hsz; omega
  unfold put5 at hP
  rw [← hP]
  exact .inl ⟨g, j, _, H2.out.1, rfl, ⟨_, _, rfl, hL5, hO5⟩, hA5, hR5⟩
theorem u8_is (c : UInt8) (n : Nat) (hn : n < 256) : c = UInt8.ofNat n ↔ (c.toNat : Int) = n := by
  constructor
  · rintro rfl; simp [UInt8.toNat_ofNat']; omega
  · intro h
    have h2 : c.toNat = n := by omega
    rw [← h2, UInt8.ofNat_toNat]
theorem isD_iff (c : UInt8) : isD c = true ↔ 48 ≤ c.toNat ∧ c.toNat ≤ 57 := by
  simp [isD, UInt8.le_iff_toNat_le]
theorem r_value_step (m R B : Nat) (s : ByteArray) (i d : Nat) (W : World) (h : At W R s i d) (hd : d + m = 16) (hB : B ≤ R) (hE : ErrsB B W) (hT : TenB B W)
    (hval : m ≠ 0 → ∀ W1 j, Rd R W W1 → At W1 R s j (d + 1) → Calls Tryd.prog 42 #[.pointer (some ⟨R, 0, none⟩)] W1 (ROut (m - 1) R s j (d + 1) W1)) :
    Calls Tryd.prog 42 #[.pointer (some ⟨R, 0, none⟩)] W (ROut m R s i d W) := by
  have hBW : B ≤ W.heap.size := by have := h.lt; omega
  cases hq : rest s i with
  | nil =>
    have hi : i = s.size := by
      have h1 := congrArg List.length hq
      rw [rest_length] at h1
      have h2 := h.le
      simp at h1; omega
    subst hi
    exact r_value_bad m R s s.size d W h (fun W1 h1 => r_way_end R s d W1 h1) (by rw [hq]; exact vat_nil)
  | cons c r =>
    have way : ∀ F, ((c.toNat : Int), F) ∈ ways → ∀ W1, At W1 R s i d → Calls Tryd.prog 56 #[.pointer (some ⟨R, 0, none⟩)] W1 (WayOut F R s i d W1) := fun F hF W1 h1 => r_way R s i d W1 h1 c r hq F hF
    by_cases h0 : c = 110
    · subst h0
      exact r_value_of m R _ (enters_of Tryd.func65 (by kernel_rfl) rfl) s i d W h (way _ (by decide)) fun W1 _ h1 => r_nothing m R s i d W1 h1 r hq
    by_cases h1 : c = 116
    · subst h1
      exact r_value_of m R _ (enters_of Tryd.func66 (by kernel_rfl) rfl) s i d W h (way _ (by decide)) fun W1 _ h1 => r_yes m R s i d W1 h1 r hq
    by_cases h2 : c = 102
    · subst h2
      exact r_value_of m R _ (enters_of Tryd.func67 (by kernel_rfl) rfl) s i d W h (way _ (by decide)) fun W1 _ h1 => r_no m R s i d W1 h1 r hq
    by_cases h3 : c = 34
    · subst h3
      exact r_value_of m R _ (enters_of Tryd.func69 (by kernel_rfl) rfl) s i d W h (way _ (by decide)) fun W1 _ h1 => r_text m R s i d W1 h1 r hq
    by_cases h4 : c = 91
    · subst h4
      exact r_value_of m R _ (enters_of Tryd.func70 (by kernel_rfl) rfl) s i d W h (way _ (by decide)) fun W1 hR h1 => r_list m R s i d W1 h1 hd r hq fun hm W2 j hR2 hA => hval hm W2 j (hR.trans hR2) hA
    by_cases h5 : c = 123
    · subst h5
      exact r_value_of m R _ (enters_of Tryd.func71 (by kernel_rfl) rfl) s i d W h (way _ (by decide)) fun W1 hR h1 => r_object m R s i d W1 h1 hd r hq fun hm W2 j hR2 hA => hval hm W2 j (hR.trans hR2) hA
    by_cases h6 : c = 45 ∨ isD c = true
    · have hk : headKind c = 2 := by unfold headKind; rw [if_neg h0, if_neg (by rintro (h | h); exact h1 h; exact h2 h), if_neg h3, if_neg h4, if_neg h5, if_pos h6]
      refine r_value_of m R 68 (enters_of Tryd.func68 (by kernel_rfl) rfl) s i d W h (way _ ?_) fun W1 hR h1 => r_number m R B s i d W1 h1 hB (hE.later (hR.below hB hBW)) (hT.later (hR.below hB hBW)) c r hq hk
      rcases h6 with rfl | h6
      · decide
      · have := (isD_iff c).1 h6
        simp [ways]
        omega
    · refine r_value_bad m R s i d W h (fun W1 hA1 => r_way_other R s i d W1 hA1 c r hq fun b hb e => ?_) (by rw [hq]; refine vat_no ?_; unfold headKind; rw [if_neg h0, if_neg (by rintro (h | h); exact h1 h; exact h2 h), if_neg h3, if_neg h4, if_neg h5, if_neg h6])
      have k0 : ¬ (c.toNat : Int) = (110 : Nat) := fun e => h0 ((u8_is c 110 (by decide)).2 e)
      have k1 : ¬ (c.toNat : Int) = (116 : Nat) := fun e => h1 ((u8_is c 116 (by decide)).2 e)
      have k2 : ¬ (c.toNat : Int) = (102 : Nat) := fun e => h2 ((u8_is c 102 (by decide)).2 e)
      have k3 : ¬ (c.toNat : Int) = (34 : Nat) := fun e => h3 ((u8_is c 34 (by decide)).2 e)
      have k4 : ¬ (c.toNat : Int) = (91 : Nat) := fun e => h4 ((u8_is c 91 (by decide)).2 e)
      have k5 : ¬ (c.toNat : Int) = (123 : Nat) := fun e => h5 ((u8_is c 123 (by decide)).2 e)
      have k6 : ¬ (c.toNat : Int) = (45 : Nat) := fun e => h6 (.inl ((u8_is c 45 (by decide)).2 e))
      have k7 : ¬ (48 ≤ c.toNat ∧ c.toNat ≤ 57) := fun e => h6 (.inr ((isD_iff c).2 e))
      simp only [waysB, List.mem_cons, List.not_mem_nil, or_false] at hb
      omega
/-- A value, whatever stands there. -/
theorem r_value : ∀ (m R B : Nat) (s : ByteArray) (i d : Nat) (W : World), At W R s i d → d + m = 16 → B ≤ R → ErrsB B W → TenB B W →
    Calls Tryd.prog 42 #[.pointer (some ⟨R, 0, none⟩)] W (ROut m R s i d W) := by
  intro m
  induction m with
  | zero => intro R B s i d W h hd hB hE hT; exact r_value_step 0 R B s i d W h hd hB hE hT (fun hm => absurd rfl hm)
  | succ m ih =>
    intro R B s i d W h hd hB hE hT
    refine r_value_step (m + 1) R B s i d W h hd hB hE hT fun _ W1 j hR hA => ?_
    have hb := hR.below hB (by have := h.lt; omega)
    exact ih R B s j (d + 1) W1 hA (by omega) hB (hE.later hb) (hT.later hb)
end Go.Proofs.YtmmjkhkcffgeiaaDoor
