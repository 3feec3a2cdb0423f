/- json's reader: null, true, false, a text. -/
import Derived.Test.YtmmjkhkcffgeiaaDoorJVal
namespace Go.Proofs.YtmmjkhkcffgeiaaDoor
open Go Go.RowKit Go.Shelf

theorem whole_put5' {W : World} {X : Nat} {t : TypeId} {z0 z1 z2 z3 z4 : Value} (h : Whole W X t #[z0, z1, z2, z3, z4]) (a0 a1 a2 a3 a4 : Value) : Whole (put5 W X a0 a1 a2 a3 a4) X t #[a0, a1, a2, a3, a4] :=
  ((((h.put 0 a0).put 1 a1).put 2 a2).put 3 a3).put 4 a4
def zcs : Array Value := #[.int .u8 0, .int .i64 0, .string ⟨#[]⟩, .slice none 0 0, .slice none 0 0]
theorem Rd.put5 {R X : Nat} {W W2 : World} (h : Rd R W W2) (hX : W.heap.size ≤ X) (a0 a1 a2 a3 a4 : Value) : Rd R W (put5 W2 X a0 a1 a2 a3 a4) :=
  h.past (put5_below (Below.refl X W2) (Nat.le_refl _) _ _ _ _ _) hX
theorem At.put5 {W : World} {R X : Nat} {s : ByteArray} {i d : Nat} (h : At W R s i d) (hX : R ≠ X) (a0 a1 a2 a3 a4 : Value) : At (put5 W X a0 a1 a2 a3 a4) R s i d := ⟨h.whole.of_eq (put5_block _ _ _ _ _ _ _ _ hX), h.le, h.max⟩
/-- The result's block. -/
theorem res_ahead {R : Nat} {W W2 : World} (h : Rd R (W.alloc (.cells #[.int .u8 0, .int .i64 0, .string ⟨#[]⟩, .slice none 0 0, .slice none 0 0] 31)) W2) (hR : R < W.heap.size) : Whole W2 W.heap.size 31 zcs ∧ Rd R W W2 :=
  ⟨h.whole (Whole.new W _ _) (by omega), (Rd.alloc R W _).trans h⟩

set_option maxHeartbeats 4000000 in
set_option maxRecDepth 100000 in
theorem r_nothing_yes (m R : Nat) (s : ByteArray) (i d : Nat) (W : World) (h : At W R s i d) (r : List UInt8) (hp : rest s i = [110, 117, 108, 108] ++ r) :
    Calls Tryd.prog 65 #[.pointer (some ⟨R, 0, none⟩)] W (ROut m R s i d W) := by
  have hlt := h.lt
  have HP := Lib.hid (And.intro hp (show r = rest s (i + 4) from (rest_next hp).symm))
  have HC := Lib.hid (fun o => c_word_ok R s ⟨#[110, 117, 108, 108]⟩ i d (W.alloc o) (h.later ((Below.refl _ _).alloc (Nat.le_refl _) o)) r hp)
  clear h hp
  go_enter Tryd.func65, Tryd.ntmps65
  go_wp2_with (go_at_call 77; refine (HC.out _).mono ?_; rintro e W2 ⟨rfl, hA, hR⟩; have H2 := Lib.hid (And.intro (show At W2 R s (i + 4) d from hA) (res_ahead hR hlt)); clear hA hR; have hx := H2.out.2.1; unfold zcs at hx; obtain ⟨c0, c1, c2, c3, c4, f0, f1, f2, f3, f4⟩ := hx.five; clear hx)
  have hx := H2.out.2.1
  unfold zcs at hx
  obtain ⟨d0, d1, d2, d3, d4, _⟩ := (whole_put5' hx (.int .u8 0) (.int .i64 0) (.string ⟨#[]⟩) (.slice none 0 0) (.slice none 0 0)).five
  unfold put5 at d0 d1 d2 d3 d4
  refine bodyPost_ret (v := .agg #[.int .u8 0, .int .i64 0, .string ⟨#[]⟩, .slice none 0 0, .slice none 0 0]) (by simp [results, Tryd.results65, go_sem, d0, d1, d2, d3, d4]) rfl ?_
  exact .inl ⟨.mk 0 0 ⟨#[]⟩ [] [] [], i + 4, _, by rw [HP.out.1, ← HP.out.2]; exact vat_null m r, rfl, leaf_val _ _ _ _ _, H2.out.1.put5 (by omega) _ _ _ _ _, H2.out.2.2.put5 (Nat.le_refl _) _ _ _ _ _⟩
set_option maxHeartbeats 4000000 in
set_option maxRecDepth 100000 in
theorem r_nothing_bad (m R : Nat) (s : ByteArray) (i d : Nat) (W : World) (h : At W R s i d) (r : List UInt8) (hq : rest s i = 110 :: r) (hp : Lib.hasPrefix (rest s i) [110, 117, 108, 108] = false) :
    Calls Tryd.prog 65 #[.pointer (some ⟨R, 0, none⟩)] W (ROut m R s i d W) := by
  have hlt := h.lt
  have HP := Lib.hid (show ¬ ∃ g r, VAt m (rest s i) g r by rw [hq] at hp ⊢; exact no_null hp)
  have HC := Lib.hid (fun o => c_word_bad R s ⟨#[110, 117, 108, 108]⟩ i d (W.alloc o) (h.later ((Below.refl _ _).alloc (Nat.le_refl _) o)) hp)
  clear h hp hq
  go_enter Tryd.func65, Tryd.ntmps65
  go_wp2_with (go_at_call 77; refine (HC.out _).mono ?_; rintro e W2 ⟨v, rfl, hv, hR⟩; have H2 := Lib.hid (And.intro hv (res_ahead hR hlt).2); clear hv hR)
  exact panic_post rfl (rout_bad HP.out ⟨_, rfl, H2.out.1, H2.out.2⟩)
theorem r_nothing (m R : Nat) (s : ByteArray) (i d : Nat) (W : World) (h : At W R s i d) (r : List UInt8) (hq : rest s i = 110 :: r) :
    Calls Tryd.prog 65 #[.pointer (some ⟨R, 0, none⟩)] W (ROut m R s i d W) := by
  cases hp : Lib.hasPrefix (rest s i) [110, 117, 108, 108] with
  | false => exact r_nothing_bad m R s i d W h r hq hp
  | true =>
    obtain ⟨r', hr⟩ := pre_split hp
    exact r_nothing_yes m R s i d W h r' hr
set_option maxHeartbeats 4000000 in
set_option maxRecDepth 100000 in
theorem r_yes_yes (m R : Nat) (s : ByteArray) (i d : Nat) (W : World) (h : At W R s i d) (r : List UInt8) (hp : rest s i = [116, 114, 117, 101] ++ r) :
    Calls Tryd.prog 66 #[.pointer (some ⟨R, 0, none⟩)] W (ROut m R s i d W) := by
  have hlt := h.lt
  have HP := Lib.hid (And.intro hp (show r = rest s (i + 4) from (rest_next hp).symm))
  have HC := Lib.hid (fun o => c_word_ok R s ⟨#[116, 114, 117, 101]⟩ i d (W.alloc o) (h.later ((Below.refl _ _).alloc (Nat.le_refl _) o)) r hp)
  clear h hp
  go_enter Tryd.func66, Tryd.ntmps66
  go_wp2_with (go_at_call 77; refine (HC.out _).mono ?_; rintro e W2 ⟨rfl, hA, hR⟩; have H2 := Lib.hid (And.intro (show At W2 R s (i + 4) d from hA) (res_ahead hR hlt)); clear hA hR; have hx := H2.out.2.1; unfold zcs at hx; obtain ⟨c0, c1, c2, c3, c4, f0, f1, f2, f3, f4⟩ := hx.five; clear hx)
  have hx := H2.out.2.1
  unfold zcs at hx
  obtain ⟨d0, d1, d2, d3, d4, _⟩ := (whole_put5' hx (.int .u8 1) (.int .i64 1) (.string ⟨#[]⟩) (.slice none 0 0) (.slice none 0 0)).five
  unfold put5 at d0 d1 d2 d3 d4
  refine bodyPost_ret (v := .agg #[.int .u8 1, .int .i64 1, .string ⟨#[]⟩, .slice none 0 0, .slice none 0 0]) (by simp [results, Tryd.results66, go_sem, d0, d1, d2, d3, d4]) rfl ?_
  exact .inl ⟨.mk 1 1 ⟨#[]⟩ [] [] [], i + 4, _, by rw [HP.out.1, ← HP.out.2]; exact vat_true m r, rfl, leaf_val _ _ _ _ _, H2.out.1.put5 (by omega) _ _ _ _ _, H2.out.2.2.put5 (Nat.le_refl _) _ _ _ _ _⟩
set_option maxHeartbeats 4000000 in
set_option maxRecDepth 100000 in
theorem r_yes_bad (m R : Nat) (s : ByteArray) (i d : Nat) (W : World) (h : At W R s i d) (r : List UInt8) (hq : rest s i = 116 :: r) (hp : Lib.hasPrefix (rest s i) [116, 114, 117, 101] = false) :
    Calls Tryd.prog 66 #[.pointer (some ⟨R, 0, none⟩)] W (ROut m R s i d W) := by
  have hlt := h.lt
  have HP := Lib.hid (show ¬ ∃ g r, VAt m (rest s i) g r by rw [hq] at hp ⊢; exact no_true hp)
  have HC := Lib.hid (fun o => c_word_bad R s ⟨#[116, 114, 117, 101]⟩ i d (W.alloc o) (h.later ((Below.refl _ _).alloc (Nat.le_refl _) o)) hp)
  clear h hp hq
  go_enter Tryd.func66, Tryd.ntmps66
  go_wp2_with (go_at_call 77; refine (HC.out _).mono ?_; rintro e W2 ⟨v, rfl, hv, hR⟩; have H2 := Lib.hid (And.intro hv (res_ahead hR hlt).2); clear hv hR)
  exact panic_post rfl (rout_bad HP.out ⟨_, rfl, H2.out.1, H2.out.2⟩)
theorem r_yes (m R : Nat) (s : ByteArray) (i d : Nat) (W : World) (h : At W R s i d) (r : List UInt8) (hq : rest s i = 116 :: r) :
    Calls Tryd.prog 66 #[.pointer (some ⟨R, 0, none⟩)] W (ROut m R s i d W) := by
  cases hp : Lib.hasPrefix (rest s i) [116, 114, 117, 101] with
  | false => exact r_yes_bad m R s i d W h r hq hp
  | true =>
    obtain ⟨r', hr⟩ := pre_split hp
    exact r_yes_yes m R s i d W h r' hr
set_option maxHeartbeats 4000000 in
set_option maxRecDepth 100000 in
theorem r_no_yes (m R : Nat) (s : ByteArray) (i d : Nat) (W : World) (h : At W R s i d) (r : List UInt8) (hp : rest s i = [102, 97, 108, 115, 101] ++ r) :
    Calls Tryd.prog 67 #[.pointer (some ⟨R, 0, none⟩)] W (ROut m R s i d W) := by
  have hlt := h.lt
  have HP := Lib.hid (And.intro hp (show r = rest s (i + 5) from (rest_next hp).symm))
  have HC := Lib.hid (fun o => c_word_ok R s ⟨#[102, 97, 108, 115, 101]⟩ i d (W.alloc o) (h.later ((Below.refl _ _).alloc (Nat.le_refl _) o)) r hp)
  clear h hp
  go_enter Tryd.func67, Tryd.ntmps67
  go_wp2_with (go_at_call 77; refine (HC.out _).mono ?_; rintro e W2 ⟨rfl, hA, hR⟩; have H2 := Lib.hid (And.intro (show At W2 R s (i + 5) d from hA) (res_ahead hR hlt)); clear hA hR; have hx := H2.out.2.1; unfold zcs at hx; obtain ⟨c0, c1, c2, c3, c4, f0, f1, f2, f3, f4⟩ := hx.five; clear hx)
  have hx := H2.out.2.1
  unfold zcs at hx
  obtain ⟨d0, d1, d2, d3, d4, _⟩ := (whole_put5' hx (.int .u8 1) (.int .i64 0) (.string ⟨#[]⟩) (.slice none 0 0) (.slice none 0 0)).five
  unfold put5 at d0 d1 d2 d3 d4
  refine bodyPost_ret (v := .agg #[.int .u8 1, .int .i64 0, .string ⟨#[]⟩, .slice none 0 0, .slice none 0 0]) (by simp [results, Tryd.results67, go_sem, d0, d1, d2, d3, d4]) rfl ?_
  exact .inl ⟨.mk 1 0 ⟨#[]⟩ [] [] [], i + 5, _, by rw [HP.out.1, ← HP.out.2]; exact vat_false m r, rfl, leaf_val _ _ _ _ _, H2.out.1.put5 (by omega) _ _ _ _ _, H2.out.2.2.put5 (Nat.le_refl _) _ _ _ _ _⟩
set_option maxHeartbeats 4000000 in
set_option maxRecDepth 100000 in
theorem r_no_bad (m R : Nat) (s : ByteArray) (i d : Nat) (W : World) (h : At W R s i d) (r : List UInt8) (hq : rest s i = 102 :: r) (hp : Lib.hasPrefix (rest s i) [102, 97, 108, 115, 101] = false) :
    Calls Tryd.prog 67 #[.pointer (some ⟨R, 0, none⟩)] W (ROut m R s i d W) := by
  have hlt := h.lt
  have HP := Lib.hid (show ¬ ∃ g r, VAt m (rest s i) g r by rw [hq] at hp ⊢; exact no_false hp)
  have HC := Lib.hid (fun o => c_word_bad R s ⟨#[102, 97, 108, 115, 101]⟩ i d (W.alloc o) (h.later ((Below.refl _ _).alloc (Nat.le_refl _) o)) hp)
  clear h hp hq
  go_enter Tryd.func67, Tryd.ntmps67
  go_wp2_with (go_at_call 77; refine (HC.out _).mono ?_; rintro e W2 ⟨v, rfl, hv, hR⟩; have H2 := Lib.hid (And.intro hv (res_ahead hR hlt).2); clear hv hR)
  exact panic_post rfl (rout_bad HP.out ⟨_, rfl, H2.out.1, H2.out.2⟩)
theorem r_no (m R : Nat) (s : ByteArray) (i d : Nat) (W : World) (h : At W R s i d) (r : List UInt8) (hq : rest s i = 102 :: r) :
    Calls Tryd.prog 67 #[.pointer (some ⟨R, 0, none⟩)] W (ROut m R s i d W) := by
  cases hp : Lib.hasPrefix (rest s i) [102, 97, 108, 115, 101] with
  | false => exact r_no_bad m R s i d W h r hq hp
  | true =>
    obtain ⟨r', hr⟩ := pre_split hp
    exact r_no_yes m R s i d W h r' hr
set_option maxHeartbeats 4000000 in
set_option maxRecDepth 100000 in
theorem r_text (m R : Nat) (s : ByteArray) (i d : Nat) (W : World) (h : At W R s i d) (r : List UInt8) (hq : rest s i = 34 :: r) :
    Calls Tryd.prog 69 #[.pointer (some ⟨R, 0, none⟩)] W (ROut m R s i d W) := by
  have hlt := h.lt
  have hr1 : r = rest s (i + 1) := (rest_next (p := [34]) hq).symm
  have HP := Lib.hid (And.intro hq hr1)
  have HC := Lib.hid (fun o => r_letters R s i d (W.alloc o) (h.later ((Below.refl _ _).alloc (Nat.le_refl _) o)) r hq)
  clear h hq hr1
  go_enter Tryd.func69, Tryd.ntmps69
  go_wp2_with (go_at_call 80; refine (HC.out _).mono ?_; rintro e W2 (⟨t, j, ht, rfl, hA, hR⟩ | ⟨hn, v, rfl, hv, hR⟩); all_goals (have H2 := Lib.hid (res_ahead hR hlt); clear hR; have hx := H2.out.1; unfold zcs at hx; obtain ⟨c0, c1, c2, c3, c4, f0, f1, f2, f3, f4⟩ := hx.five; clear hx))
  · have hx := H2.out.1
    unfold zcs at hx
    obtain ⟨d0, d1, d2, d3, d4, _⟩ := (whole_put5' hx (.int .u8 3) (.int .i64 0) (.string ⟨t.toArray⟩) (.slice none 0 0) (.slice none 0 0)).five
    unfold put5 at d0 d1 d2 d3 d4
    refine bodyPost_ret (v := .agg #[.int .u8 3, .int .i64 0, .string ⟨t.toArray⟩, .slice none 0 0, .slice none 0 0]) (by simp [results, Tryd.results69, go_sem, d0, d1, d2, d3, d4]) rfl ?_
    refine .inl ⟨.mk 3 0 ⟨t.toArray⟩ [] [] [], j, _, ?_, rfl, leaf_val _ _ _ _ _, hA.put5 (by omega) _ _ _ _ _, H2.out.2.put5 (Nat.le_refl _) _ _ _ _ _⟩
    have e : rest s i = encText t ++ rest s j := by
      rw [HP.out.1, HP.out.2, ht]
      simp [encText]
    rw [e]
    exact vat_text m t _
  · exact panic_post rfl (rout_bad (by rw [HP.out.1]; exact no_text (by rw [HP.out.2]; exact hn)) ⟨_, rfl, hv, H2.out.2⟩)
end Go.Proofs.YtmmjkhkcffgeiaaDoor
