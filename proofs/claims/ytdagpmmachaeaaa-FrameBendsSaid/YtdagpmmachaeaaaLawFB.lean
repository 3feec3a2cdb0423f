/- FrameBends, the Go function: it comes out true. -/
import Derived.Test.YtdagpmmachaeaaaLawFK
namespace Go.Proofs.Ytdagpmmachaeaaa
open Go Go.RowKit
set_option linter.unusedVariables false
set_option linter.unusedSimpArgs false

theorem bend0 {S : Nat} {y : Int} {r : List Int} (hS : S < 4294967296) (hy : 0 ≤ y ∧ y ≤ 255) (h : numN (y :: (S : Int) / 65536 % 256 :: (S : Int) / 256 % 256 :: (S : Int) % 256 :: r) = S) : (S : Int) / 16777216 = y := by
  simp only [numN, List.getD_cons_zero, List.getD_cons_succ] at h
  omega
theorem bend1 {S : Nat} {y : Int} {r : List Int} (hS : S < 4294967296) (hy : 0 ≤ y ∧ y ≤ 255) (h : numN ((S : Int) / 16777216 :: y :: (S : Int) / 256 % 256 :: (S : Int) % 256 :: r) = S) : (S : Int) / 65536 % 256 = y := by
  simp only [numN, List.getD_cons_zero, List.getD_cons_succ] at h
  omega
theorem bend2 {S : Nat} {y : Int} {r : List Int} (hS : S < 4294967296) (hy : 0 ≤ y ∧ y ≤ 255) (h : numN ((S : Int) / 16777216 :: (S : Int) / 65536 % 256 :: y :: (S : Int) % 256 :: r) = S) : (S : Int) / 256 % 256 = y := by
  simp only [numN, List.getD_cons_zero, List.getD_cons_succ] at h
  omega
theorem bend3 {S : Nat} {y : Int} {r : List Int} (hS : S < 4294967296) (hy : 0 ≤ y ∧ y ≤ 255) (h : numN ((S : Int) / 16777216 :: (S : Int) / 65536 % 256 :: (S : Int) / 256 % 256 :: y :: r) = S) : (S : Int) % 256 = y := by
  simp only [numN, List.getD_cons_zero, List.getD_cons_succ] at h
  omega
/-- A frame of which a byte behind the fourth is another one is none. -/
theorem bends {bs : List Int} (hb : Byte bs) (hl : bs.length ≤ 60000) {k : Nat} (h4 : 4 ≤ k) (hk : k < 8 + bs.length) {y : Int} (hy : 0 ≤ y ∧ y ≤ 255) (hne : ∀ u, (frameB bs)[k]? = some u → u ≠ y) : okF ((frameB bs).set k y) = false := by
  refine okF_no ?_
  rintro ⟨-, -, -, hs⟩
  have hN : (num4 bs.length).length = 4 := rfl
  have hS := sum_lt [num4 bs.length, bs]
  unfold frameB at hne hs
  rw [List.append_assoc] at hne hs
  generalize hSS : sumN [num4 bs.length, bs] = S at hne hs hS
  have hT : (num4 S).length = 4 := rfl
  rw [List.set_append_right _ _ (by rw [hN]; exact h4), hN] at hs
  have hn : ∀ r, numN (num4 bs.length ++ r) = bs.length := fun r => numN_num4 (by omega) r
  rw [hn, List.take_left' hN, List.drop_left' hN] at hs
  rw [List.getElem?_append_right (by rw [hN]; exact h4), hN] at hne
  by_cases h8 : k < 8
  · rw [List.set_append_left _ _ (by rw [hT]; omega)] at hs
    rw [List.getElem?_append_left (by rw [hT]; omega)] at hne
    have e : (List.take (8 + bs.length) (num4 bs.length ++ ((num4 S).set (k - 4) y ++ bs))).drop 8 = bs := by
      rw [← List.append_assoc, List.take_of_length_le (by simp [hN, hT]; omega), List.drop_left' (by simp [hN, hT])]
    rw [e, hSS] at hs
    obtain ⟨j, rfl⟩ : ∃ j, k = j + 4 := ⟨k - 4, by omega⟩
    rw [Nat.add_sub_cancel] at hs hne
    have hj : j < 4 := by omega
    rcases (by omega : j = 0 ∨ j = 1 ∨ j = 2 ∨ j = 3) with rfl | rfl | rfl | rfl
    · exact hne _ rfl (bend0 hS hy hs.symm)
    · exact hne _ rfl (bend1 hS hy hs.symm)
    · exact hne _ rfl (bend2 hS hy hs.symm)
    · exact hne _ rfl (bend3 hS hy hs.symm)
  · obtain ⟨j, rfl⟩ : ∃ j, k = j + 8 := ⟨k - 8, by omega⟩
    rw [show j + 8 - 4 = j + 4 by omega] at hs hne
    rw [List.set_append_right _ _ (by rw [hT]; omega), hT, Nat.add_sub_cancel, numN_num4 hS] at hs
    rw [List.getElem?_append_right (by rw [hT]; omega), hT, Nat.add_sub_cancel] at hne
    have e : (List.take (8 + bs.length) (num4 bs.length ++ (num4 S ++ bs.set j y))).drop 8 = bs.set j y := by
      rw [← List.append_assoc, List.take_of_length_le (by simp [hN, hT]; omega), List.drop_left' (by simp [hN, hT])]
    rw [e, ← hSS] at hs
    have hj : j < bs.length := by omega
    have e2 : sumN [num4 bs.length ++ bs.take j ++ bs[j] :: bs.drop (j + 1)] = sumN [num4 bs.length ++ bs.take j ++ y :: bs.drop (j + 1)] := by
      rw [sumN_flat (b := [num4 bs.length, bs]) (by simp [List.append_assoc]), sumN_flat (a := [num4 bs.length ++ bs.take j ++ y :: bs.drop (j + 1)]) (b := [num4 bs.length, bs.set j y]) (by simp [set_split hj]), hs]
    exact hne _ (List.getElem?_eq_getElem hj) (sum_other ((num4_byte (by omega)).append (hb.take j)) (hb.drop (j + 1)) (hb _ (List.getElem_mem hj)) hy e2)
set_option maxHeartbeats 4000000 in
theorem fbends_true (A : Option Addr) (ca : Nat) (bs : List Int) (z x : Int) (w : World) (hA : Bytes w.heap.size w A bs) (hs : Short bs) (hz : -9223372036854775808 ≤ z ∧ z ≤ 9223372036854775807) (hx : 0 ≤ x ∧ x ≤ 255) :
    Calls Try.prog 11 #[.slice A bs.length ca, .int .i64 z, .int .u8 x] w fun e w' => e = .returned (.bool true) ∧ Below w.heap.size w w' := by
  have h2 := hs.2
  have HS := Lib.hid hs
  have HA := Lib.hid hA
  clear hA hs
  by_cases hl : bs.length ≤ 1500
  · have hd0 : decide (1500 < (bs.length : Int)) = false := decide_eq_false (by omega)
    by_cases hx0 : x = 0
    · have hbx : (x == 0) = true := by rw [hx0]; rfl
      clear hx0
      go_enter Try.func11, Try.ntmps11
      go_wp2_with (go_at_call 16; refine (fknown_true _).mono ?_; rintro e W1 ⟨rfl, hb⟩; have HB1 := Lib.hid hb; clear hb)
      go_ret
      exact ⟨rfl, HB1.out⟩
    · have hbx : (x == 0) = false := beq_eq_false_iff_ne.2 hx0
      obtain ⟨m, hm, hml⟩ := max_nat z hz
      have HL : Hid ((frameB bs).length = 8 + bs.length) := Lib.hid (frameB_len bs)
      have hmod : (m : Int) % (((8 + bs.length : Nat) : Int) - 4) = ((m % (4 + bs.length) : Nat) : Int) := by
        rw [show ((8 + bs.length : Nat) : Int) - 4 = ((4 + bs.length : Nat) : Int) by omega]; rfl
      have hq : m % (4 + bs.length) < 4 + bs.length := Nat.mod_lt _ (by omega)
      generalize m % (4 + bs.length) = q at hmod hq
      have hk : 4 + q < (frameB bs).length := by rw [HL.out]; omega
      have hfb := frameB_byte HS.out.1 (by omega)
      have hu := hfb _ (List.getElem_mem hk)
      have hxor := xor_u8 hu hx
      have HX := Lib.hid (xorB_byte hu hx)
      have HNO : Hid (okF ((frameB bs).set (4 + q) (xorB (frameB bs)[4 + q] x)) = false) := Lib.hid (bends HS.out.1 (by omega) (by omega) (by omega) (xorB_byte hu hx) (fun v hv => by
        rw [List.getElem?_eq_getElem hk] at hv; cases hv; exact xor_ne hu hx hx0))
      have HG : Hid ((frameB bs)[4 + q]? = some (frameB bs)[4 + q]) := Lib.hid (List.getElem?_eq_getElem hk)
      have HSF := Lib.hid (short_set (short_frame HS.out (by omega)) (4 + q) HX.out)
      generalize (frameB bs)[4 + q] = u at hu hxor HX HNO HG HSF
      generalize hy : xorB u x = y at hxor HX HNO HSF
      clear hy hfb hx0
      generalize hL : (frameB bs).length = L at HL hk
      have HLL := Lib.hid hL
      have hL1 := Nat.le_of_eq HL.out
      have hL2 := Nat.le_of_eq HL.out.symm
      have hmod2 : (m : Int) % ((L : Int) - 4) = (q : Int) := by rw [HL.out]; exact hmod
      have hL0 : ((L : Int) != 8 + (bs.length : Int)) = false := bne_eq_false_iff_eq.2 (by omega)
      clear hL hmod
      go_enter Try.func11, Try.ntmps11
      go_wp2_with (first
        | (go_at_call 16; refine (fknown_true _).mono ?_; rintro e W1 ⟨rfl, hb⟩; have HB1 := Lib.hid hb; have hz1 := hb.size; have HA1 := Lib.hid (HA.out.keep hb (Nat.le_refl _)); clear hb)
        | (go_at_call 17; ((with_reducible refine (wrap_n A ca bs.length bs W1 (HA1.out.up hz1) HS.out (by omega) rfl).mono ?_); rintro e w2 ⟨g, d, rfl, hd, hr, hb⟩; rw [HLL.out] at hd ⊢; have HD := Lib.hid hd; have HB2 := Lib.hid (HB1.out.trans (hb.mono hz1)); have HR2 := Lib.hid hr; have hz2 := HB2.out.size; have hg1 := hr.base; have hg2 := hr.lt; obtain ⟨hc1, hc2⟩ := hr.cell HG.out; have HR3 := Lib.hid (hr.put (k := 4 + q) y); clear hd hr hb))
        | (go_at_call 19; ((with_reducible refine (open_no (some ⟨g, 0, none⟩) d L ((frameB bs).set (4 + q) y) _ (HR3.out.bytes.up (by simp; omega)) HSF.out (by rw [List.length_set, HLL.out]; exact HD.out) (by rw [List.length_set, HLL.out]; omega) (by rw [List.length_set, HLL.out]) HNO.out).mono ?_); rintro e w4 ⟨rfl, hb⟩; have HB4 := Lib.hid ((HB2.out.setCell (p := ⟨g, 4 + q, none⟩) (by show _ ≤ g; omega) (.int .u8 y)).trans (hb.mono (by simp; omega))); clear hb)))
      go_ret
      exact ⟨rfl, HB4.out⟩
  · have hd0 : decide (1500 < (bs.length : Int)) = true := decide_eq_true (by omega)
    go_enter Try.func11, Try.ntmps11
    go_wp2_with (go_at_call 16; refine (fknown_true _).mono ?_; rintro e W1 ⟨rfl, hb⟩; have HB1 := Lib.hid hb; clear hb)
    go_ret
    exact ⟨rfl, HB1.out⟩
end Go.Proofs.Ytdagpmmachaeaaa
