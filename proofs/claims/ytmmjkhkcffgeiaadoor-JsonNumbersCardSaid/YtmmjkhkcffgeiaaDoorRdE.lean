/- json's reader: what a backslash begins. -/
import Derived.Test.YtmmjkhkcffgeiaaDoorJRead
namespace Go.Proofs.YtmmjkhkcffgeiaaDoor
open Go Go.RowKit Go.Shelf

/-- How escaped ends. -/
def EscOut (R : Nat) (s : ByteArray) (i d : Nat) (W : World) (e : Ending) (w' : World) : Prop :=
  (∃ (c : UInt8) (n : Nat), esc (rest s i) = some (c, n) ∧ e = .returned (.int .u8 c.toNat) ∧ At w' R s (i + n) d ∧ Rd R W w') ∨ (esc (rest s i) = none ∧ Bad R W e w')
theorem escOut_bad {R : Nat} {s : ByteArray} {i d : Nat} {W : World} {e : Ending} {w' : World} (h : esc (rest s i) = none) (hb : Bad R W e w') : EscOut R s i d W e w' := .inr ⟨h, hb⟩
theorem esc_117 {r : List UInt8} : esc (117 :: r) = (match r with
        | a :: b :: h :: l :: _ => if a = 48 ∧ b = 48 ∧ 0 ≤ hexIx 2 h ∧ 0 ≤ hexIx 16 l then some (UInt8.ofNat (16 * hexIx 2 h + hexIx 16 l).toNat, 5) else none
        | _ => none) := by
  simp only [esc]
  rw [if_neg (by decide), if_pos trivial]
  rfl
theorem pre_no {r : List UInt8} (h : Lib.hasPrefix r [48, 48] = false) : esc (117 :: r) = none := by
  rw [esc_117]
  match r, h with
  | a :: b :: x :: y :: r', h =>
    simp only
    rw [if_neg]
    rintro ⟨rfl, rfl, _⟩
    simp [Lib.hasPrefix] at h
  | [], _ => rfl
  | [_], _ => rfl
  | [_, _], _ => rfl
  | [_, _, _], _ => rfl
theorem pre_some {r : List UInt8} (h : Lib.hasPrefix r [48, 48] = true) : ∃ r', r = 48 :: 48 :: r' := by
  unfold Lib.hasPrefix at h
  obtain ⟨t, ht⟩ := List.isPrefixOf_iff_prefix.1 h
  exact ⟨t, by rw [← ht]; rfl⟩

set_option maxHeartbeats 4000000 in
set_option maxRecDepth 100000 in
theorem r_esc_plain (R : Nat) (s : ByteArray) (i d : Nat) (W : World) (h : At W R s i d) (hi : i < s.size) (hc : s[i] = 34 ∨ s[i] = 92) :
    Calls Tryd.prog 90 #[.pointer (some ⟨R, 0, none⟩)] W (EscOut R s i d W) := by
  have HC := Lib.hid (c_next_ok R s i d W h hi)
  have he : esc (rest s i) = some (s[i], 1) := by rw [rest_cons hi]; simp only [esc]; rw [if_pos hc]
  have HE := Lib.hid he
  clear h he
  generalize s[i] = c at *
  rcases hc with rfl | rfl
  all_goals
    go_enter Tryd.func90, Tryd.ntmps90
    go_wp2_with (go_at_call 89; refine HC.out.mono ?_; rintro e W1 ⟨rfl, hh⟩; have H1 := Lib.hid hh; clear hh)
    go_ret
    exact .inl ⟨_, 1, HE.out, rfl, H1.out.1, H1.out.2⟩
set_option maxHeartbeats 4000000 in
set_option maxRecDepth 100000 in
theorem r_esc_other (R : Nat) (s : ByteArray) (i d : Nat) (W : World) (h : At W R s i d) (hi : i < s.size) (hc : ¬ (s[i] = 34 ∨ s[i] = 92)) (hc2 : s[i] ≠ 117) :
    Calls Tryd.prog 90 #[.pointer (some ⟨R, 0, none⟩)] W (EscOut R s i d W) := by
  have HC := Lib.hid (c_next_ok R s i d W h hi)
  have he : esc (rest s i) = none := by rw [rest_cons hi]; simp only [esc]; rw [if_neg hc, if_neg hc2]
  have HE := Lib.hid he
  clear h he
  generalize s[i] = c at *
  have n1 : ((c.toNat : Int) == 34) = false := by
    have : c.toNat ≠ 34 := fun e => hc (.inl (UInt8.toNat_inj.1 e))
    simp; omega
  have n2 : ((c.toNat : Int) == 92) = false := by
    have : c.toNat ≠ 92 := fun e => hc (.inr (UInt8.toNat_inj.1 e))
    simp; omega
  have n3 : ((c.toNat : Int) == 117) = false := by
    have : c.toNat ≠ 117 := fun e => hc2 (UInt8.toNat_inj.1 e)
    simp; omega
  clear hc hc2
  go_enter Tryd.func90, Tryd.ntmps90
  go_wp2_with (go_at_call 89; refine HC.out.mono ?_; rintro e W1 ⟨rfl, hh⟩; have H1 := Lib.hid hh; clear hh)
  exact panic_post rfl (escOut_bad HE.out ⟨_, rfl, .inl rfl, H1.out.2⟩)
set_option maxHeartbeats 4000000 in
set_option maxRecDepth 100000 in
theorem r_esc_end (R : Nat) (s : ByteArray) (d : Nat) (W : World) (h : At W R s s.size d) :
    Calls Tryd.prog 90 #[.pointer (some ⟨R, 0, none⟩)] W (EscOut R s s.size d W) := by
  have HC := Lib.hid (c_next_bad R s d W h)
  clear h
  go_enter Tryd.func90, Tryd.ntmps90
  go_wp2_with (go_at_call 89; refine HC.out.mono ?_; rintro e W1 ⟨v, rfl, hv, hR⟩; have H1 := Lib.hid (And.intro hv hR); clear hv hR)
  exact panic_post rfl (escOut_bad (by rw [rest_end]; rfl) ⟨_, rfl, H1.out.1, H1.out.2⟩)
set_option maxHeartbeats 4000000 in
set_option maxRecDepth 100000 in
theorem r_esc_u0 (R : Nat) (s : ByteArray) (i d : Nat) (W : World) (h : At W R s i d) (hi : i < s.size) (hc : s[i] = 117) (hp : Lib.hasPrefix (rest s (i + 1)) [48, 48] = false) :
    Calls Tryd.prog 90 #[.pointer (some ⟨R, 0, none⟩)] W (EscOut R s i d W) := by
  have HC := Lib.hid (c_next_ok R s i d W h hi)
  have HD := Lib.hid (fun W1 (h1 : At W1 R s (i + 1) d) => c_word_bad R s ⟨#[48, 48]⟩ (i + 1) d W1 h1 hp)
  have he : esc (rest s i) = none := by rw [rest_cons hi, hc]; exact pre_no hp
  have HE := Lib.hid he
  rw [hc] at HC
  clear h he hp hc
  go_enter Tryd.func90, Tryd.ntmps90
  go_wp2_with (first
    | (go_at_call 89; refine HC.out.mono ?_; rintro e W1 ⟨rfl, hh⟩; have H1 := Lib.hid hh; clear hh)
    | (go_at_call 77; refine (HD.out _ H1.out.1).mono ?_; rintro e W2 ⟨v, rfl, hv, hR⟩; have H2 := Lib.hid (And.intro hv hR); clear hv hR))
  exact panic_post rfl (escOut_bad HE.out ⟨_, rfl, H2.out.1, H1.out.2.trans H2.out.2⟩)

/-- \u00, and what comes of the first digit. -/
def Dig (base : Nat) (R : Nat) (s : ByteArray) (i d : Nat) (W : World) (e : Ending) (w' : World) : Prop :=
  (∃ hi : i < s.size, 0 ≤ hexIx base s[i] ∧ e = .returned (.int .i64 (hexIx base s[i])) ∧ At w' R s (i + 1) d ∧ Rd R W w') ∨ ((∀ hi : i < s.size, hexIx base s[i] < 0) ∧ Bad R W e w')
theorem dig2 (R : Nat) (s : ByteArray) (i d : Nat) (W : World) (h : At W R s i d) : Calls Tryd.prog 97 #[.pointer (some ⟨R, 0, none⟩), .int .i64 2] W (Dig 2 R s i d W) := by
  by_cases hi : i < s.size
  · by_cases hx : 0 ≤ hexIx 2 s[i]
    · exact (c_digit2_ok R s i d W h hi hx).mono fun e w' hh => .inl ⟨hi, hx, hh⟩
    · exact (c_digit2_bad R s i d W h hi (by omega)).mono fun e w' hh => .inr ⟨fun _ => by omega, hh⟩
  · have e : i = s.size := by have := h.le; omega
    subst e
    exact (c_digit2_end R s d W h).mono fun e w' hh => .inr ⟨fun hi => absurd hi (Nat.lt_irrefl _), hh⟩
theorem dig16 (R : Nat) (s : ByteArray) (i d : Nat) (W : World) (h : At W R s i d) : Calls Tryd.prog 97 #[.pointer (some ⟨R, 0, none⟩), .int .i64 16] W (Dig 16 R s i d W) := by
  by_cases hi : i < s.size
  · by_cases hx : 0 ≤ hexIx 16 s[i]
    · exact (c_digit16_ok R s i d W h hi hx).mono fun e w' hh => .inl ⟨hi, hx, hh⟩
    · exact (c_digit16_bad R s i d W h hi (by omega)).mono fun e w' hh => .inr ⟨fun _ => by omega, hh⟩
  · have e : i = s.size := by have := h.le; omega
    subst e
    exact (c_digit16_end R s d W h).mono fun e w' hh => .inr ⟨fun hi => absurd hi (Nat.lt_irrefl _), hh⟩
/-- What two hex digits stand for. -/
def escD : List UInt8 → Option (UInt8 × Nat)
  | h :: l :: _ => if 0 ≤ hexIx 2 h ∧ 0 ≤ hexIx 16 l then some (UInt8.ofNat (16 * hexIx 2 h + hexIx 16 l).toNat, 5) else none
  | _ => none
theorem esc_u {s : ByteArray} {i : Nat} (hi : i < s.size) (hc : s[i] = 117) (hp : Lib.hasPrefix (rest s (i + 1)) [48, 48] = true) : ∃ r, rest s (i + 1) = 48 :: 48 :: r ∧ r = rest s (i + 3) ∧ esc (rest s i) = escD r := by
  obtain ⟨r, hr⟩ := pre_some hp
  refine ⟨r, hr, ?_, ?_⟩
  · have := rest_drop s (i + 1) 2
    rw [hr] at this
    exact this
  · rw [rest_cons hi, hc, hr, esc_117]
    match r with
    | h :: l :: _ => simp [escD]
    | [] => rfl
    | [_] => rfl
theorem u8_of (a b : Int) (ha : 0 ≤ a) (ha1 : a ≤ 1) (hb : 0 ≤ b) (hb1 : b ≤ 15) : (((UInt8.ofNat (16 * a + b).toNat).toNat : Nat) : Int) = 16 * a + b := by
  rw [UInt8.toNat_ofNat']
  omega

theorem esc_val (a b : Int) (ha : 0 ≤ a) (ha1 : a ≤ 1) (hb : 0 ≤ b) (hb1 : b ≤ 15) : wrap64 (wrap64 (16 * a) + b) % 256 = (((UInt8.ofNat (16 * a + b).toNat).toNat : Nat) : Int) := by
  rw [u8_of a b ha ha1 hb hb1]
  unfold wrap64
  omega
theorem esc_m {s : ByteArray} {i : Nat} {r : List UInt8} (hr : r = rest s (i + 3)) (E : esc (rest s i) = escD r) (hn : (∀ hi : i + 3 < s.size, hexIx 2 s[i + 3] < 0) ∨ (∀ hi : i + 3 + 1 < s.size, hexIx 16 s[i + 3 + 1] < 0)) : esc (rest s i) = none := by
  rw [E]
  subst hr
  by_cases h3 : i + 3 < s.size
  · rw [rest_cons h3]
    by_cases h4 : i + 3 + 1 < s.size
    · rw [rest_cons h4]
      simp only [escD]
      rw [if_neg]
      rintro ⟨a, b⟩
      rcases hn with h | h
      · have := h h3; omega
      · have := h h4; omega
    · have e : rest s (i + 3 + 1) = [] := List.length_eq_zero_iff.1 (by rw [rest_length]; omega)
      rw [e]
      rfl
  · have e : rest s (i + 3) = [] := List.length_eq_zero_iff.1 (by rw [rest_length]; omega)
    rw [e]
    rfl
theorem esc_y {s : ByteArray} {i : Nat} {r : List UInt8} (hr : r = rest s (i + 3)) (E : esc (rest s i) = escD r) (h3 : i + 3 < s.size) (h4 : i + 3 + 1 < s.size) (a : 0 ≤ hexIx 2 s[i + 3]) (b : 0 ≤ hexIx 16 s[i + 3 + 1]) : esc (rest s i) = some (UInt8.ofNat (16 * hexIx 2 s[i + 3] + hexIx 16 s[i + 3 + 1]).toNat, 5) := by
  rw [E]
  subst hr
  rw [rest_cons h3, rest_cons h4]
  simp only [escD]
  rw [if_pos ⟨a, b⟩]

set_option maxHeartbeats 4000000 in
set_option maxRecDepth 100000 in
theorem r_esc_u (R : Nat) (s : ByteArray) (i d : Nat) (W : World) (h : At W R s i d) (hi : i < s.size) (hc : s[i] = 117) (hp : Lib.hasPrefix (rest s (i + 1)) [48, 48] = true) :
    Calls Tryd.prog 90 #[.pointer (some ⟨R, 0, none⟩)] W (EscOut R s i d W) := by
  have HC := Lib.hid (c_next_ok R s i d W h hi)
  obtain ⟨r, hr, hr3, he⟩ := esc_u hi hc hp
  have HD := Lib.hid (fun W1 (h1 : At W1 R s (i + 1) d) => c_word_ok R s ⟨#[48, 48]⟩ (i + 1) d W1 h1 r hr)
  have HE := Lib.hid (And.intro he hr3)
  rw [hc] at HC
  clear h he hp hc hr hr3
  go_enter Tryd.func90, Tryd.ntmps90
  go_wp2_with (first
    | (go_at_call 89; refine HC.out.mono ?_; rintro e W1 ⟨rfl, hh⟩; have H1 := Lib.hid hh; clear hh)
    | (go_at_call 77; refine (HD.out _ H1.out.1).mono ?_; rintro e W2 ⟨rfl, hA, hR⟩; have H2 := Lib.hid (And.intro (show At W2 R s (i + 3) d from hA) hR); clear hA hR)
    | (go_at_call 97; (with_reducible refine (dig2 R s (i + 3) d _ H2.out.1).mono ?_); rintro e W3 (⟨hi3, hx3, rfl, hA, hR⟩ | ⟨hn, v, rfl, hv, hR⟩); all_goals (have H3 := Lib.hid hR; clear hR))
    | (go_at_call 97; have HX3 := Lib.hid hA; clear hA; have a1 := (hex2_back _ hx3).1; obtain ⟨n3, hn3⟩ : ∃ n, n = hexIx 2 s[i + 3] := ⟨_, rfl⟩; rw [← hn3] at hx3 a1 ⊢; have HN3 := Lib.hid hn3; clear hn3; (with_reducible refine (dig16 R s (i + 3 + 1) d _ HX3.out).mono ?_); rintro e W4 (⟨hi4, hx4, rfl, hA, hR⟩ | ⟨hn, v, rfl, hv, hR⟩); all_goals (have H4 := Lib.hid hR; clear hR)))
  · go_ret
    have b1 := (hex16_back _ hx4).1
    refine .inl ⟨_, 5, esc_y HE.out.2 HE.out.1 hi3 hi4 (by rw [← HN3.out]; exact hx3) hx4, ?_, hA, H1.out.2.trans (H2.out.2.trans (H3.out.trans H4.out))⟩
    rw [← HN3.out]
    exact congrArg (fun z => Ending.returned (.int .u8 z)) (esc_val n3 _ hx3 a1 hx4 b1)
  · exact panic_post rfl (escOut_bad (esc_m HE.out.2 HE.out.1 (.inr hn)) ⟨_, rfl, hv, H1.out.2.trans (H2.out.2.trans (H3.out.trans H4.out))⟩)
  · exact panic_post rfl (escOut_bad (esc_m HE.out.2 HE.out.1 (.inl hn)) ⟨_, rfl, hv, H1.out.2.trans (H2.out.2.trans H3.out)⟩)
theorem r_escaped (R : Nat) (s : ByteArray) (i d : Nat) (W : World) (h : At W R s i d) :
    Calls Tryd.prog 90 #[.pointer (some ⟨R, 0, none⟩)] W (EscOut R s i d W) := by
  by_cases hi : i < s.size
  · by_cases hc : s[i] = 34 ∨ s[i] = 92
    · exact r_esc_plain R s i d W h hi hc
    · by_cases hc2 : s[i] = 117
      · cases hp : Lib.hasPrefix (rest s (i + 1)) [48, 48] with
        | false => exact r_esc_u0 R s i d W h hi hc2 hp
        | true => exact r_esc_u R s i d W h hi hc2 hp
      · exact r_esc_other R s i d W h hi hc hc2
  · have e : i = s.size := by have := h.le; omega
    subst e
    exact r_esc_end R s d W h
end Go.Proofs.YtmmjkhkcffgeiaaDoor
