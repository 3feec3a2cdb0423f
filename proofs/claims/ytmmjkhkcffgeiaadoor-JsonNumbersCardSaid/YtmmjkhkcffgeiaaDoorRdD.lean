/- json's reader: its cursor's digits. -/
import Derived.Test.YtmmjkhkcffgeiaaDoorRdA
namespace Go.Proofs.YtmmjkhkcffgeiaaDoor
open Go Go.RowKit Go.Shelf

theorem idx_is2 (c : UInt8) (w : World) : Calls Tryd.prog 103 #[.string ⟨#[48, 49]⟩, .int .u8 c.toNat] w fun e w' => e = .returned (.int .i64 (hexIx 2 c)) ∧ w = w' :=
  (Tryd.strings_IndexByte _ _ w).mono fun e w' hh => ⟨by rw [hh.1]; simp [hexIx, hexL], hh.2.symm⟩
set_option maxHeartbeats 4000000 in
set_option maxRecDepth 100000 in
theorem c_digit2_ok (R : Nat) (s : ByteArray) (i d : Nat) (W : World) (h : At W R s i d) (hi : i < s.size) (hx : 0 ≤ hexIx 2 s[i]) :
    Calls Tryd.prog 97 #[.pointer (some ⟨R, 0, none⟩), .int .i64 2] W fun e w' => e = .returned (.int .i64 (hexIx 2 s[i])) ∧ At w' R s (i + 1) d ∧ Rd R W w' := by
  have HC := Lib.hid (c_next_ok R s i d W.drew h.drew hi)
  have HX := Lib.hid (idx_is2 s[i])
  clear h
  generalize s[i] = c at *
  generalize hexIx 2 c = n at *
  have hd : decide (0 ≤ n) = true := by simp; omega
  go_enter Tryd.func97, Tryd.ntmps97
  go_wp2_with fail
  go_region_with (first
    | (go_at_call 89; refine HC.out.mono ?_; rintro e W1 ⟨rfl, hh⟩; have H1 := Lib.hid hh; clear hh)
    | (go_at_call 103; refine (HX.out _).mono ?_; rintro e W2 ⟨rfl, rfl⟩))
  all_goals go_wp2_with (go_at_call 24; refine (need_ok _ _).mono ?_; rintro e W3 ⟨rfl, rfl⟩)
  all_goals go_ret
  all_goals exact ⟨rfl, H1.out.1, (Rd.drew _ _).trans H1.out.2⟩
set_option maxHeartbeats 4000000 in
set_option maxRecDepth 100000 in
theorem c_digit2_bad (R : Nat) (s : ByteArray) (i d : Nat) (W : World) (h : At W R s i d) (hi : i < s.size) (hx : hexIx 2 s[i] < 0) :
    Calls Tryd.prog 97 #[.pointer (some ⟨R, 0, none⟩), .int .i64 2] W (Bad R W) := by
  have HC := Lib.hid (c_next_ok R s i d W.drew h.drew hi)
  have HX := Lib.hid (idx_is2 s[i])
  clear h
  generalize s[i] = c at *
  generalize hexIx 2 c = n at *
  have hd : decide (0 ≤ n) = false := by simp; omega
  go_enter Tryd.func97, Tryd.ntmps97
  go_wp2_with fail
  go_region_with (first
    | (go_at_call 89; refine HC.out.mono ?_; rintro e W1 ⟨rfl, hh⟩; have H1 := Lib.hid hh; clear hh)
    | (go_at_call 103; refine (HX.out _).mono ?_; rintro e W2 ⟨rfl, rfl⟩))
  all_goals go_wp2_with (go_at_call 24; refine (need_bad _ _).mono ?_; rintro e W3 ⟨rfl, rfl⟩)
  all_goals exact panic_post rfl ⟨_, rfl, .inl rfl, (Rd.drew _ _).trans H1.out.2⟩
set_option maxHeartbeats 4000000 in
set_option maxRecDepth 100000 in
theorem c_digit2_end (R : Nat) (s : ByteArray) (d : Nat) (W : World) (h : At W R s s.size d) :
    Calls Tryd.prog 97 #[.pointer (some ⟨R, 0, none⟩), .int .i64 2] W (Bad R W) := by
  have HC := Lib.hid (c_next_bad R s d W.drew h.drew)
  clear h
  go_enter Tryd.func97, Tryd.ntmps97
  go_wp2_with fail
  go_region_with (first
    | (go_at_call 89; refine HC.out.mono ?_; intro e W1 hq; rcases dead (.int .u8 0) hq with ⟨rfl, HF⟩ | ⟨v, rfl, hv, hR⟩; rotate_left; exact panic_post rfl ⟨v, rfl, hv, (Rd.drew _ _).trans hR⟩)
    | (go_at_call 103; refine (Tryd.strings_IndexByte _ _ _).mono ?_; rintro e W2 ⟨rfl, rfl⟩))
  all_goals exact HF.out.elim
theorem idx_is16 (c : UInt8) (w : World) : Calls Tryd.prog 103 #[.string ⟨#[48, 49, 50, 51, 52, 53, 54, 55, 56, 57, 97, 98, 99, 100, 101, 102]⟩, .int .u8 c.toNat] w fun e w' => e = .returned (.int .i64 (hexIx 16 c)) ∧ w = w' :=
  (Tryd.strings_IndexByte _ _ w).mono fun e w' hh => ⟨by rw [hh.1]; simp [hexIx, hexL], hh.2.symm⟩
set_option maxHeartbeats 4000000 in
set_option maxRecDepth 100000 in
theorem c_digit16_ok (R : Nat) (s : ByteArray) (i d : Nat) (W : World) (h : At W R s i d) (hi : i < s.size) (hx : 0 ≤ hexIx 16 s[i]) :
    Calls Tryd.prog 97 #[.pointer (some ⟨R, 0, none⟩), .int .i64 16] W fun e w' => e = .returned (.int .i64 (hexIx 16 s[i])) ∧ At w' R s (i + 1) d ∧ Rd R W w' := by
  have HC := Lib.hid (c_next_ok R s i d W.drew h.drew hi)
  have HX := Lib.hid (idx_is16 s[i])
  clear h
  generalize s[i] = c at *
  generalize hexIx 16 c = n at *
  have hd : decide (0 ≤ n) = true := by simp; omega
  go_enter Tryd.func97, Tryd.ntmps97
  go_wp2_with fail
  go_region_with (first
    | (go_at_call 89; refine HC.out.mono ?_; rintro e W1 ⟨rfl, hh⟩; have H1 := Lib.hid hh; clear hh)
    | (go_at_call 103; refine (HX.out _).mono ?_; rintro e W2 ⟨rfl, rfl⟩))
  all_goals go_wp2_with (go_at_call 24; refine (need_ok _ _).mono ?_; rintro e W3 ⟨rfl, rfl⟩)
  all_goals go_ret
  all_goals exact ⟨rfl, H1.out.1, (Rd.drew _ _).trans H1.out.2⟩
set_option maxHeartbeats 4000000 in
set_option maxRecDepth 100000 in
theorem c_digit16_bad (R : Nat) (s : ByteArray) (i d : Nat) (W : World) (h : At W R s i d) (hi : i < s.size) (hx : hexIx 16 s[i] < 0) :
    Calls Tryd.prog 97 #[.pointer (some ⟨R, 0, none⟩), .int .i64 16] W (Bad R W) := by
  have HC := Lib.hid (c_next_ok R s i d W.drew h.drew hi)
  have HX := Lib.hid (idx_is16 s[i])
  clear h
  generalize s[i] = c at *
  generalize hexIx 16 c = n at *
  have hd : decide (0 ≤ n) = false := by simp; omega
  go_enter Tryd.func97, Tryd.ntmps97
  go_wp2_with fail
  go_region_with (first
    | (go_at_call 89; refine HC.out.mono ?_; rintro e W1 ⟨rfl, hh⟩; have H1 := Lib.hid hh; clear hh)
    | (go_at_call 103; refine (HX.out _).mono ?_; rintro e W2 ⟨rfl, rfl⟩))
  all_goals go_wp2_with (go_at_call 24; refine (need_bad _ _).mono ?_; rintro e W3 ⟨rfl, rfl⟩)
  all_goals exact panic_post rfl ⟨_, rfl, .inl rfl, (Rd.drew _ _).trans H1.out.2⟩
set_option maxHeartbeats 4000000 in
set_option maxRecDepth 100000 in
theorem c_digit16_end (R : Nat) (s : ByteArray) (d : Nat) (W : World) (h : At W R s s.size d) :
    Calls Tryd.prog 97 #[.pointer (some ⟨R, 0, none⟩), .int .i64 16] W (Bad R W) := by
  have HC := Lib.hid (c_next_bad R s d W.drew h.drew)
  clear h
  go_enter Tryd.func97, Tryd.ntmps97
  go_wp2_with fail
  go_region_with (first
    | (go_at_call 89; refine HC.out.mono ?_; intro e W1 hq; rcases dead (.int .u8 0) hq with ⟨rfl, HF⟩ | ⟨v, rfl, hv, hR⟩; rotate_left; exact panic_post rfl ⟨v, rfl, hv, (Rd.drew _ _).trans hR⟩)
    | (go_at_call 103; refine (Tryd.strings_IndexByte _ _ _).mono ?_; rintro e W2 ⟨rfl, rfl⟩))
  all_goals exact HF.out.elim
end Go.Proofs.YtmmjkhkcffgeiaaDoor
