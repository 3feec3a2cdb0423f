/- DiskCuts, the Go function: it comes out true. -/
import Derived.Test.YtkieacidpiffpaaDskP
namespace Go.Proofs.Ytkieacidpiffpaa
open Go Go.RowKit Go.Shelf
set_option linter.unusedVariables false
set_option linter.unusedSimpArgs false

/-- A law's one disk. -/
structure On (w : World) (own : Nat → Prop) (B : Nat) (m : Md) (W : World) : Prop where
  un : Un w own W
  l : Lk own W B m
section
variable {w W W' : World} {own own' : Nat → Prop} {B : Nat} {m m' : Md}
theorem On.next (h : On w own B m W) (hl : Lk own' W' B m') (k : Nx own W W' own') : On w own' B m' W' := ⟨h.un.next k, hl⟩
theorem On.then (h : On w own B m W) (k : Below W.heap.size W W') : On w own B m W' := ⟨h.un.then k, h.l.below k⟩
/-- What the law was handed is none of the disk's own. -/
theorem On.src (h : On w own B m W) {A : Option Addr} {bs : List Int} (hA : Bytes w.heap.size w A bs) : Src own W A bs := fun hne => by
  obtain ⟨b, o, rfl, hb, hc⟩ := hA hne
  exact ⟨b, o, rfl, fun h2 => by have := h.un.own b h2; omega, Nat.lt_of_lt_of_le hb h.un.below.size, fun i x hi => (h.un.below.cell (p := ⟨b, o + i, none⟩) hb).trans (hc i x hi)⟩
end
theorem cuts_conv2 {hi : Nat} {W : World} {A : Option Addr} {bs : List Int} (h : Bytes hi W A bs) (c : Nat) :
    (convert 22 9 (.slice A bs.length c)).run Try.prog W = .ok (.string (strOfNums bs)) W ∧ (convert 22 9 (.slice A bs.length c)).run Try.prog W.drew = .ok (.string (strOfNums bs)) W.drew :=
  ⟨conv_str h c _ rfl, conv_str (W := W.drew) h c _ rfl⟩
theorem cuts_conv {hi : Nat} {W : World} {A : Option Addr} {bs ks : List Int} (h : Bytes hi W A bs) {k c : Nat} (hk : k ≤ bs.length) (hc : bs.length ≤ c) (hks : ks = bs.take k) :
    (convert 22 9 (.slice (cutAt A 0 c) k c)).run Try.prog W = .ok (.string (strOfNums ks)) W ∧ (convert 22 9 (.slice (cutAt A 0 c) k c)).run Try.prog W.drew = .ok (.string (strOfNums ks)) W.drew := by
  subst hks
  have h2 := cutAt_bytes h (l := 0) (Nat.zero_le _) hk hc
  rw [List.drop_zero] at h2
  have hl : k = (bs.take k).length := by rw [List.length_take]; omega
  exact ⟨conv_str h2 c _ hl, conv_str (W := W.drew) h2 c _ hl⟩
set_option maxRecDepth 100000 in
set_option maxHeartbeats 4000000 in
theorem dcuts_true (A : Option Addr) (ca : Nat) (xs : List Int) (C : Option Addr) (cc : Nat) (ys : List Int) (z : Int) (sync : Bool) (w : World) (hA : Bytes w.heap.size w A xs) (hC : Bytes w.heap.size w C ys) (hs : Short xs) (ht : Short ys) (hz : -9223372036854775808 ≤ z ∧ z ≤ 9223372036854775807) (hca : xs.length ≤ ca) :
    Calls Try.prog 3 #[.slice A xs.length ca, .slice C ys.length cc, .int .i64 z, .bool sync] w fun e w' => e = .returned (.bool true) ∧ Below w.heap.size w w' := by
  have HA := Lib.hid hA
  have HC := Lib.hid hC
  have HS := Lib.hid (show Byte xs ∧ xs.length ≤ 9223372036854775807 from hs)
  have HT := Lib.hid (show Byte ys ∧ ys.length ≤ 9223372036854775807 from ht)
  have hl1 := hs.2
  have hl2 := ht.2
  clear hA hC hs ht
  by_cases hs1 : xs.length ≤ 1000
  · by_cases hs2 : ys.length ≤ 1000
    · cases sync with
      | true =>
        have HX := Lib.hid sF_small
        have HN0 := Lib.hid (fun W => l_new W 5000 (by omega) 5000 rfl)
        obtain ⟨k, hk, hkl⟩ : ∃ k : Nat, max z 0 % ((xs.length : Int) + 1) = (k : Int) ∧ k ≤ xs.length := ⟨(max z 0 % ((xs.length : Int) + 1)).toNat, by have := Int.emod_nonneg (max z 0) (show (xs.length : Int) + 1 ≠ 0 by omega); omega, by have := Int.emod_lt_of_pos (max z 0) (show (0 : Int) < (xs.length : Int) + 1 by omega); omega⟩
        have hsl := fun W => run_h A xs.length ca k (by omega) W
        obtain ⟨ks, hks⟩ : ∃ ks, ks = xs.take k := ⟨_, rfl⟩
        have hlk : ks.length = k := by rw [hks, List.length_take]; omega
        obtain ⟨zs, hzs⟩ : ∃ zs, zs = ks ++ ys := ⟨_, rfl⟩
        have hlz : zs.length = ks.length + ys.length := by rw [hzs, List.length_append]
        have HKS := Lib.hid hks
        have HE1 := Lib.hid (F_first (R := 5000) (bs := xs) (by omega))
        have HE2 := Lib.hid (F_sync 5000 0 xs)
        have HE3 := Lib.hid (show (mF 5000 xs xs.length).cut sF (k : Int) = (mF 5000 ks k, 0) by rw [F_cut hkl, Nat.min_eq_right hkl, hks])
        have HE4 := Lib.hid (show (mF 5000 ks k).append sF ys = (mF 5000 zs k, 0) by rw [hzs]; exact F_append (by omega))
        have HE5 := Lib.hid (F_sync 5000 k zs)
        have HE6 := Lib.hid (show (mF 5000 zs zs.length).crash 0 = mF 5000 zs zs.length by rw [F_crash, show min (zs.length + (0 : Int).toNat) (max zs.length zs.length) = zs.length by simp, List.take_length])
        have HE7 := Lib.hid (And.intro (F_read 5000 zs.length zs).1 (F_read 5000 zs.length zs).2)
        have HE4r := Lib.hid (And.intro (F_read 5000 k zs).1 (F_read 5000 k zs).2)
        have HE8 := Lib.hid (F_used 5000 zs.length zs)
        have HE9 := Lib.hid (F_cutno (R := 5000) (n := zs.length) (z := (zs.length : Int) + 1) (bs := zs) (by omega))
        have hadd : strOfNums ks ++ strOfNums ys = strOfNums zs := by rw [hzs]; exact strs_add ks ys
        have hsz1 := strs_size ks
        have hsz2 := strs_size ys
        have hsz3 := strs_size zs
        have HZ := Lib.hid (show -9223372036854775808 ≤ (k : Int) ∧ (k : Int) ≤ 9223372036854775807 by omega)
        have HZ2 := Lib.hid (show -9223372036854775808 ≤ (zs.length : Int) + 1 ∧ (zs.length : Int) + 1 ≤ 9223372036854775807 by omega)
        have hb3 : ¬ 9223372036854775807 < ks.length + ys.length := by omega
        have hb5 : IntKind.i64.wrap ((zs.length : Int) + 1) = (zs.length : Int) + 1 := by rw [IntKind.wrap_i64]; omega
        have hb4 : zs.length ≤ 3000 := by omega
        have HLT := Lib.hid (show k ≤ xs.length ∧ xs.length ≤ ca from ⟨hkl, hca⟩)
        clear hkl hca hks hlk hzs hlz
        go_enter Try.func3, Try.ntmps3
        go_wp2_with (first
          | (go_at_call 9; refine (known_true _).mono ?_; rintro e w0 ⟨rfl, hb⟩; have HB0 := Lib.hid hb; clear hb)
          | (go_at_call 10; ((with_reducible refine (HN0.out _).mono ?_); rintro e w1 ⟨own1, B, rfl, hL, ho, hb⟩; have O1 := Lib.hid (On.mk (Un.mk (HB0.out.trans (hb.mono HB0.out.size)) (fun i hi => Nat.le_trans HB0.out.size (ho i hi))) hL); have S1 := Lib.hid (O1.out.src HA.out); clear hL ho hb))
          | (go_at_call 11; ((with_reducible refine (l_append O1.out.l A ca xs.length sF xs S1.out HX.out HS.out.1 HS.out.2 rfl HE1.out).mono ?_); rintro e w2 ⟨rfl, own2, hL, hN⟩; have O2 := Lib.hid (O1.out.next hL hN); clear hL hN))
          | (go_at_call 12; ((with_reducible refine (l_sync O2.out.l sF HX.out HE2.out).mono ?_); rintro e w3 ⟨rfl, own3, hL, hN⟩; have O3 := Lib.hid (O2.out.next hL hN); clear hL hN))
          | (go_at_call 13; ((with_reducible refine (l_cut O3.out.l sF HX.out (k : Int) HZ.out HE3.out).mono ?_); rintro e w4 ⟨rfl, own4, hL, hN⟩; have O4 := Lib.hid (O3.out.next hL hN); have S4 := Lib.hid (O4.out.src HC.out); clear hL hN))
          | (go_at_call 11; ((with_reducible refine (l_append O4.out.l C cc ys.length sF ys S4.out HX.out HT.out.1 HT.out.2 rfl HE4.out).mono ?_); rintro e w5 ⟨rfl, own5, hL, hN⟩; have O5 := Lib.hid (O4.out.next hL hN); clear hL hN))
          | (go_at_call 14; ((with_reducible refine (l_read O5.out.l sF HX.out HE4r.out.1 HE4r.out.2).mono ?_); rintro e w6 ⟨X, xc, rfl, hown, hb⟩; have O6 := Lib.hid (O5.out.then hb); have X6 := Lib.hid (Src.fresh O5.out.l hown); clear hown hb))
          | (go_at_call 12; ((with_reducible refine (l_sync O6.out.l sF HX.out HE5.out).mono ?_); rintro e w7 ⟨rfl, own7, hL, hN⟩; have O7 := Lib.hid (O6.out.next hL hN); have X7 := Lib.hid (X6.out.next hN); clear hL hN))
          | (go_at_call 15; ((with_reducible refine (l_crash O7.out.l 0 (by decide) HE6.out).mono ?_); rintro e w8 ⟨rfl, own8, hL, hN⟩; have O8 := Lib.hid (O7.out.next hL hN); have X8 := Lib.hid (X7.out.next hN); clear hL hN))
          | (go_at_call 14; ((with_reducible refine (l_read O8.out.l sF HX.out HE7.out.1 HE7.out.2).mono ?_); rintro e w9 ⟨Y, yc, rfl, hown, hb⟩; have O9 := Lib.hid (O8.out.then hb); have Y9 := Lib.hid (Src.fresh O8.out.l hown); have X9 := Lib.hid (X8.out.below hb); have q1 := cuts_conv (HA.out.keep O9.out.un.below (Nat.le_refl _)) HLT.out.1 HLT.out.2 HKS.out; have q2 := cuts_conv2 (HC.out.keep O9.out.un.below (Nat.le_refl _)) cc; have q3 := cuts_conv2 X9.out.bytes xc; have q4 := cuts_conv2 Y9.out.bytes yc; obtain ⟨q1, q1d⟩ := q1; obtain ⟨q2, q2d⟩ := q2; obtain ⟨q3, q3d⟩ := q3; obtain ⟨q4, q4d⟩ := q4; clear hown hb)))
        have HQ := Lib.hid (fun (W : World) (hb : Below w.heap.size w W) (hx : Bytes W.heap.size W X zs) (hy : Bytes W.heap.size W Y zs) => (show (convert 22 9 (.slice (cutAt A 0 ca) k ca)).run Try.prog W = .ok (.string (strOfNums ks)) W ∧ (convert 22 9 (.slice C ys.length cc)).run Try.prog W = .ok (.string (strOfNums ys)) W ∧ (convert 22 9 (.slice X zs.length xc)).run Try.prog W = .ok (.string (strOfNums zs)) W ∧ (convert 22 9 (.slice Y zs.length yc)).run Try.prog W = .ok (.string (strOfNums zs)) W from
          ⟨(cuts_conv (HA.out.keep hb (Nat.le_refl _)) HLT.out.1 HLT.out.2 HKS.out).1, (cuts_conv2 (HC.out.keep hb (Nat.le_refl _)) cc).1, (cuts_conv2 hx xc).1, (cuts_conv2 hy yc).1⟩))
        have KEEP := Lib.hid (fun (W : World) (hb : Below w9.heap.size w9 W) => HQ.out W (O9.out.then hb).un.below (X9.out.below hb).bytes (Y9.out.below hb).bytes)
        have HU := Lib.hid (fun (W : World) (hb : Below w9.heap.size w9 W) => (l_used (O9.out.then hb).l HE8.out).mono (R' := fun e w' => e = Ending.returned (.int .i64 (zs.length : Nat)) ∧ Below w9.heap.size w9 w') fun e w' ⟨he, hb'⟩ => ⟨he, hb.trans (hb'.mono hb.size)⟩)
        have HCU := Lib.hid (fun (W : World) (hb : Below w9.heap.size w9 W) => (l_cut (O9.out.then hb).l sF HX.out ((zs.length : Int) + 1) HZ2.out HE9.out).mono (R' := fun e W => e = Ending.returned (.int .u16 1) ∧ Below w.heap.size w W ∧ (convert 22 9 (.slice (cutAt A 0 ca) k ca)).run Try.prog W = .ok (.string (strOfNums ks)) W ∧ (convert 22 9 (.slice C ys.length cc)).run Try.prog W = .ok (.string (strOfNums ys)) W ∧ (convert 22 9 (.slice X zs.length xc)).run Try.prog W = .ok (.string (strOfNums zs)) W ∧ (convert 22 9 (.slice Y zs.length yc)).run Try.prog W = .ok (.string (strOfNums zs)) W) fun e w' ⟨he, own', hL, hN⟩ => ⟨he, ((O9.out.then hb).next hL hN).un.below, HQ.out w' ((O9.out.then hb).next hL hN).un.below ((X9.out.below hb).next hN).bytes ((Y9.out.below hb).next hN).bytes⟩)
        clear q1d q2d q3d q4d
        go_region_held3 (fun W => (convert 22 9 (.slice (cutAt A 0 ca) k ca)).run Try.prog W = .ok (.string (strOfNums ks)) W ∧ (convert 22 9 (.slice C ys.length cc)).run Try.prog W = .ok (.string (strOfNums ys)) W ∧ (convert 22 9 (.slice X zs.length xc)).run Try.prog W = .ok (.string (strOfNums zs)) W ∧ (convert 22 9 (.slice Y zs.length yc)).run Try.prog W = .ok (.string (strOfNums zs)) W)
          (first | exact K11.out | exact KEEP.out _ B10.out | exact KEEP.out _ (Below.refl _ _).drew | exact KEEP.out _ (Below.refl _ _))
          (first
            | (go_at_call 16; ((with_reducible refine (HU.out _ (Below.refl _ _).drew).mono ?_); rintro e w10 ⟨rfl, hb⟩; have B10 := Lib.hid hb; clear hb))
            | (go_at_call 13; ((with_reducible refine (HCU.out _ B10.out).mono ?_); rintro e w11 ⟨rfl, hb, hq⟩; have B11 := Lib.hid hb; have K11 := Lib.hid hq; clear hb hq)))
        all_goals go_wp2
        all_goals go_ret
        all_goals exact ⟨rfl, B11.out⟩
      | false =>
        have HX := Lib.hid sF_small
        have HN0 := Lib.hid (fun W => l_new W 5000 (by omega) 5000 rfl)
        obtain ⟨k, hk, hkl⟩ : ∃ k : Nat, max z 0 % ((xs.length : Int) + 1) = (k : Int) ∧ k ≤ xs.length := ⟨(max z 0 % ((xs.length : Int) + 1)).toNat, by have := Int.emod_nonneg (max z 0) (show (xs.length : Int) + 1 ≠ 0 by omega); omega, by have := Int.emod_lt_of_pos (max z 0) (show (0 : Int) < (xs.length : Int) + 1 by omega); omega⟩
        have hsl := fun W => run_h A xs.length ca k (by omega) W
        obtain ⟨ks, hks⟩ : ∃ ks, ks = xs.take k := ⟨_, rfl⟩
        have hlk : ks.length = k := by rw [hks, List.length_take]; omega
        obtain ⟨zs, hzs⟩ : ∃ zs, zs = ks ++ ys := ⟨_, rfl⟩
        have hlz : zs.length = ks.length + ys.length := by rw [hzs, List.length_append]
        have HKS := Lib.hid hks
        have HE1 := Lib.hid (F_first (R := 5000) (bs := xs) (by omega))
        have HE2 := Lib.hid (F_sync 5000 0 xs)
        have HE3 := Lib.hid (show (mF 5000 xs xs.length).cut sF (k : Int) = (mF 5000 ks k, 0) by rw [F_cut hkl, Nat.min_eq_right hkl, hks])
        have HE4 := Lib.hid (show (mF 5000 ks k).append sF ys = (mF 5000 zs k, 0) by rw [hzs]; exact F_append (by omega))
        have HE6 := Lib.hid (show (mF 5000 zs k).crash 0 = mF 5000 ks k by rw [F_crash, show min (k + (0 : Int).toNat) (max k zs.length) = k by simp; omega, hzs, List.take_left' hlk])
        have HE7 := Lib.hid (And.intro (F_read 5000 k ks).1 (F_read 5000 k ks).2)
        have HE4r := Lib.hid (And.intro (F_read 5000 k zs).1 (F_read 5000 k zs).2)
        have HE8 := Lib.hid (F_used 5000 k ks)
        have HE9 := Lib.hid (F_cutno (R := 5000) (n := k) (z := (ks.length : Int) + 1) (bs := ks) (by omega))
        have hadd : strOfNums ks ++ strOfNums ys = strOfNums zs := by rw [hzs]; exact strs_add ks ys
        have hsz1 := strs_size ks
        have hsz2 := strs_size ys
        have hsz3 := strs_size zs
        have HZ := Lib.hid (show -9223372036854775808 ≤ (k : Int) ∧ (k : Int) ≤ 9223372036854775807 by omega)
        have HZ2 := Lib.hid (show -9223372036854775808 ≤ (ks.length : Int) + 1 ∧ (ks.length : Int) + 1 ≤ 9223372036854775807 by omega)
        have hb3 : ¬ 9223372036854775807 < ks.length + ys.length := by omega
        have hb5 : IntKind.i64.wrap ((ks.length : Int) + 1) = (ks.length : Int) + 1 := by rw [IntKind.wrap_i64]; omega
        have hb4 : ks.length ≤ 3000 := by omega
        have HLT := Lib.hid (show k ≤ xs.length ∧ xs.length ≤ ca from ⟨hkl, hca⟩)
        clear hkl hca hks hlk hzs hlz
        go_enter Try.func3, Try.ntmps3
        go_wp2_with (first
          | (go_at_call 9; refine (known_true _).mono ?_; rintro e w0 ⟨rfl, hb⟩; have HB0 := Lib.hid hb; clear hb)
          | (go_at_call 10; ((with_reducible refine (HN0.out _).mono ?_); rintro e w1 ⟨own1, B, rfl, hL, ho, hb⟩; have O1 := Lib.hid (On.mk (Un.mk (HB0.out.trans (hb.mono HB0.out.size)) (fun i hi => Nat.le_trans HB0.out.size (ho i hi))) hL); have S1 := Lib.hid (O1.out.src HA.out); clear hL ho hb))
          | (go_at_call 11; ((with_reducible refine (l_append O1.out.l A ca xs.length sF xs S1.out HX.out HS.out.1 HS.out.2 rfl HE1.out).mono ?_); rintro e w2 ⟨rfl, own2, hL, hN⟩; have O2 := Lib.hid (O1.out.next hL hN); clear hL hN))
          | (go_at_call 12; ((with_reducible refine (l_sync O2.out.l sF HX.out HE2.out).mono ?_); rintro e w3 ⟨rfl, own3, hL, hN⟩; have O3 := Lib.hid (O2.out.next hL hN); clear hL hN))
          | (go_at_call 13; ((with_reducible refine (l_cut O3.out.l sF HX.out (k : Int) HZ.out HE3.out).mono ?_); rintro e w4 ⟨rfl, own4, hL, hN⟩; have O4 := Lib.hid (O3.out.next hL hN); have S4 := Lib.hid (O4.out.src HC.out); clear hL hN))
          | (go_at_call 11; ((with_reducible refine (l_append O4.out.l C cc ys.length sF ys S4.out HX.out HT.out.1 HT.out.2 rfl HE4.out).mono ?_); rintro e w5 ⟨rfl, own5, hL, hN⟩; have O5 := Lib.hid (O4.out.next hL hN); clear hL hN))
          | (go_at_call 14; ((with_reducible refine (l_read O5.out.l sF HX.out HE4r.out.1 HE4r.out.2).mono ?_); rintro e w6 ⟨X, xc, rfl, hown, hb⟩; have O6 := Lib.hid (O5.out.then hb); have X6 := Lib.hid (Src.fresh O5.out.l hown); clear hown hb))
          | (go_at_call 15; ((with_reducible refine (l_crash O6.out.l 0 (by decide) HE6.out).mono ?_); rintro e w8 ⟨rfl, own8, hL, hN⟩; have O8 := Lib.hid (O6.out.next hL hN); have X8 := Lib.hid (X6.out.next hN); clear hL hN))
          | (go_at_call 14; ((with_reducible refine (l_read O8.out.l sF HX.out HE7.out.1 HE7.out.2).mono ?_); rintro e w9 ⟨Y, yc, rfl, hown, hb⟩; have O9 := Lib.hid (O8.out.then hb); have Y9 := Lib.hid (Src.fresh O8.out.l hown); have X9 := Lib.hid (X8.out.below hb); have q1 := cuts_conv (HA.out.keep O9.out.un.below (Nat.le_refl _)) HLT.out.1 HLT.out.2 HKS.out; have q2 := cuts_conv2 (HC.out.keep O9.out.un.below (Nat.le_refl _)) cc; have q3 := cuts_conv2 X9.out.bytes xc; have q4 := cuts_conv2 Y9.out.bytes yc; obtain ⟨q1, q1d⟩ := q1; obtain ⟨q2, q2d⟩ := q2; obtain ⟨q3, q3d⟩ := q3; obtain ⟨q4, q4d⟩ := q4; clear hown hb)))
        have HQ := Lib.hid (fun (W : World) (hb : Below w.heap.size w W) (hx : Bytes W.heap.size W X zs) (hy : Bytes W.heap.size W Y ks) => (show (convert 22 9 (.slice (cutAt A 0 ca) k ca)).run Try.prog W = .ok (.string (strOfNums ks)) W ∧ (convert 22 9 (.slice C ys.length cc)).run Try.prog W = .ok (.string (strOfNums ys)) W ∧ (convert 22 9 (.slice X zs.length xc)).run Try.prog W = .ok (.string (strOfNums zs)) W ∧ (convert 22 9 (.slice Y ks.length yc)).run Try.prog W = .ok (.string (strOfNums ks)) W from
          ⟨(cuts_conv (HA.out.keep hb (Nat.le_refl _)) HLT.out.1 HLT.out.2 HKS.out).1, (cuts_conv2 (HC.out.keep hb (Nat.le_refl _)) cc).1, (cuts_conv2 hx xc).1, (cuts_conv2 hy yc).1⟩))
        have KEEP := Lib.hid (fun (W : World) (hb : Below w9.heap.size w9 W) => HQ.out W (O9.out.then hb).un.below (X9.out.below hb).bytes (Y9.out.below hb).bytes)
        have HU := Lib.hid (fun (W : World) (hb : Below w9.heap.size w9 W) => (l_used (O9.out.then hb).l HE8.out).mono (R' := fun e w' => e = Ending.returned (.int .i64 (ks.length : Nat)) ∧ Below w9.heap.size w9 w') fun e w' ⟨he, hb'⟩ => ⟨he, hb.trans (hb'.mono hb.size)⟩)
        have HCU := Lib.hid (fun (W : World) (hb : Below w9.heap.size w9 W) => (l_cut (O9.out.then hb).l sF HX.out ((ks.length : Int) + 1) HZ2.out HE9.out).mono (R' := fun e W => e = Ending.returned (.int .u16 1) ∧ Below w.heap.size w W ∧ (convert 22 9 (.slice (cutAt A 0 ca) k ca)).run Try.prog W = .ok (.string (strOfNums ks)) W ∧ (convert 22 9 (.slice C ys.length cc)).run Try.prog W = .ok (.string (strOfNums ys)) W ∧ (convert 22 9 (.slice X zs.length xc)).run Try.prog W = .ok (.string (strOfNums zs)) W ∧ (convert 22 9 (.slice Y ks.length yc)).run Try.prog W = .ok (.string (strOfNums ks)) W) fun e w' ⟨he, own', hL, hN⟩ => ⟨he, ((O9.out.then hb).next hL hN).un.below, HQ.out w' ((O9.out.then hb).next hL hN).un.below ((X9.out.below hb).next hN).bytes ((Y9.out.below hb).next hN).bytes⟩)
        clear q1d q2d q3d q4d
        go_region_held3 (fun W => (convert 22 9 (.slice (cutAt A 0 ca) k ca)).run Try.prog W = .ok (.string (strOfNums ks)) W ∧ (convert 22 9 (.slice C ys.length cc)).run Try.prog W = .ok (.string (strOfNums ys)) W ∧ (convert 22 9 (.slice X zs.length xc)).run Try.prog W = .ok (.string (strOfNums zs)) W ∧ (convert 22 9 (.slice Y ks.length yc)).run Try.prog W = .ok (.string (strOfNums ks)) W)
          (first | exact K11.out | exact KEEP.out _ B10.out | exact KEEP.out _ (Below.refl _ _).drew | exact KEEP.out _ (Below.refl _ _))
          (first
            | (go_at_call 16; ((with_reducible refine (HU.out _ (Below.refl _ _).drew).mono ?_); rintro e w10 ⟨rfl, hb⟩; have B10 := Lib.hid hb; clear hb))
            | (go_at_call 13; ((with_reducible refine (HCU.out _ B10.out).mono ?_); rintro e w11 ⟨rfl, hb, hq⟩; have B11 := Lib.hid hb; have K11 := Lib.hid hq; clear hb hq)))
        all_goals go_wp2
        all_goals go_ret
        all_goals exact ⟨rfl, B11.out⟩
    · have HK := Lib.hid hs2
      clear hca
      go_enter Try.func3, Try.ntmps3
      go_wp2_with (go_at_call 9; refine (known_true _).mono ?_; rintro e w0 ⟨rfl, hb⟩; have HB0 := Lib.hid hb; clear hb)
      go_ret
      exact ⟨rfl, HB0.out⟩
  · go_enter Try.func3, Try.ntmps3
    go_wp2_with (go_at_call 9; refine (known_true _).mono ?_; rintro e w0 ⟨rfl, hb⟩; have HB0 := Lib.hid hb; clear hb)
    go_ret
    exact ⟨rfl, HB0.out⟩
end Go.Proofs.Ytkieacidpiffpaa
