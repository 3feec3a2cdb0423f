/- DiskLasts, the Go function: it comes out true. -/
import Derived.Test.YtkieacidpiffpaaDskQ
namespace Go.Proofs.Ytkieacidpiffpaa
open Go Go.RowKit Go.Shelf
set_option linter.unusedVariables false
set_option linter.unusedSimpArgs false

def SumR (w : World) (ls : List (List Int)) (v i : Value) (W : World) : Prop := ∃ k : Nat, k ≤ ls.length ∧ i = .int .i64 k ∧ v = .int .i64 ((ls.take k).flatten.length : Nat) ∧ w = W
/-- Between the appends. -/
def LstR (w : World) (ls : List (List Int)) (S B : Nat) (a l i : Value) (W : World) : Prop :=
  ∃ (k : Nat) (own : Nat → Prop), k ≤ ls.length ∧ i = .int .i64 k ∧ l = .int .i64 ((ls.take (min k S)).flatten.length : Nat) ∧ On w own B (stL (decide (0 < k)) (ls.take k).flatten (ls.take (min k S)).flatten.length) W ∧ Rw w own W a (ls.take k).flatten
theorem LstR.mk' {w W : World} {ls : List (List Int)} {S B k l : Nat} {own : Nat → Prop} {fk x : List Int} {a : Value} (hk : k + 1 ≤ ls.length) (hnx : (ls.take (k + 1)).flatten = fk ++ x) (hl : (ls.take (min (k + 1) S)).flatten.length = l) (ho : On w own B (stL true (fk ++ x) l) W) (hr : Rw w own W a (fk ++ x)) :
    LstR w ls S B a (.int .i64 (l : Nat)) (.int .i64 ((k : Int) + 1)) W := by
  refine ⟨k + 1, own, hk, rfl, by rw [hl], ?_, by rw [hnx]; exact hr⟩
  rw [hl, hnx, show decide (0 < k + 1) = true from decide_eq_true (Nat.succ_pos k)]
  exact ho
set_option maxRecDepth 100000 in
set_option maxHeartbeats 4000000 in
theorem dlasts_true (A : Option Addr) (ca : Nat) (ls : List (List Int)) (y kp ag : Int) (w : World) (hR : Lists w.heap.size w A ls) (hs : ∀ x ∈ ls, Short x) (hy : 0 ≤ y ∧ y ≤ 255) (hkp : -9223372036854775808 ≤ kp ∧ kp ≤ 9223372036854775807) (hag : -9223372036854775808 ≤ ag ∧ ag ≤ 9223372036854775807) (ht : wt ls ≤ 1000000000) :
    Calls Try.prog 5 #[.slice A ls.length ca, .int .u8 y, .int .i64 kp, .int .i64 ag] w fun e w' => e = .returned (.bool true) ∧ Below w.heap.size w w' := by
  have HR := Lib.hid hR
  have HS := Lib.hid hs
  have hwt := wt_flat ls
  have hn9 : ls.length ≤ 1000000000 := by omega
  have HT := Lib.hid (show ls.flatten.length ≤ 1000000000 by omega)
  have HKP := Lib.hid hkp
  have HAG := Lib.hid hag
  clear hR hs hwt ht
  go_enter Try.func5, Try.ntmps5
  go_wp2
  go_loopw [9, 10] (SumR w ls) (fun _ i _ => ls.length - (intOf i).toNat)
  case atStart => exact ⟨0, Nat.zero_le _, rfl, rfl, rfl⟩
  case round =>
    obtain ⟨k, hk, rfl, rfl, rfl⟩ := hrel
    by_cases hlt : k < ls.length
    · obtain ⟨b1, o1, rfl, _, hc1⟩ := HR.out (by intro e; simp [e] at hlt)
      obtain ⟨C1, d1, e1, hb1⟩ := hc1 k ls[k] (List.getElem?_eq_getElem hlt)
      have hnx := congrArg List.length (flat_next hlt)
      rw [List.length_append] at hnx
      have hle := Nat.le_trans (flat_all ls (k + 1)) HT.out
      generalize (ls[k]).length = m at e1 hnx
      rw [hnx] at hle
      have HNX := Lib.hid hnx
      clear hnx hc1 hb1
      generalize (ls.take k).flatten.length = r at hle HNX
      go_wp2
      go_roundw
      case rel => exact ⟨k + 1, by omega, by go_num, by rw [HNX.out]; go_num, rfl⟩
      case measure => simp [intOf]; omega
    · obtain rfl : k = ls.length := by omega
      rw [List.take_length]
      clear hlt hk
      obtain ⟨T, hT⟩ : ∃ T, T = ls.flatten.length := ⟨_, rfl⟩
      rw [← hT]
      have HTT := Lib.hid hT
      have hTs : T ≤ 1000000000 := by rw [hT]; exact HT.out
      clear hT
      by_cases h5 : 5000 < T
      · have HB := Lib.hid h5
        go_wp2_with (go_at_call 9; refine (known_true _).mono ?_; rintro e w0 ⟨rfl, hb⟩; have HB0 := Lib.hid hb; clear hb)
        go_ret
        exact ⟨rfl, HB0.out⟩
      by_cases h6 : 100 < ls.length
      · have HB := Lib.hid h6
        go_wp2_with (go_at_call 9; refine (known_true _).mono ?_; rintro e w0 ⟨rfl, hb⟩; have HB0 := Lib.hid hb; clear hb)
        go_ret
        exact ⟨rfl, HB0.out⟩
      obtain ⟨S, hS⟩ : ∃ S : Nat, y % 20 = (S : Int) := ⟨(y % 20).toNat, by omega⟩
      have hS2 : y.tmod 20 = (S : Int) := by rw [Int.tmod_eq_emod_of_nonneg hy.1]; exact hS
      have HX := Lib.hid sF_small
      have HN0 := Lib.hid (fun W => l_new W 10000 (by omega) 10000 rfl)
      have HL := Lib.hid (show ls.flatten.length ≤ 5000 by have := HTT.out; omega)
      have HBY := Lib.hid (fun x hx => (HS.out x hx).1)
      go_wp2_with (first
        | (go_at_call 9; refine (known_true _).mono ?_; rintro e w0 ⟨rfl, hb⟩; have HB0 := Lib.hid hb; clear hb)
        | (go_at_call 10; ((with_reducible refine (HN0.out _).mono ?_); rintro e w1 ⟨own1, B, rfl, hL, ho, hb⟩; have O1 := Lib.hid (On.mk (Un.mk (HB0.out.trans (hb.mono HB0.out.size)) (fun i hi => Nat.le_trans HB0.out.size (ho i hi))) hL); clear hL ho hb)))
      go_loopw [12, 13, 14] (fun a l i W => LstR w ls S B a l i W) (fun _ _ i _ => ls.length - (intOf i).toNat)
      case atStart => exact ⟨0, own1, Nat.zero_le _, rfl, by simp, O1.out, ⟨World.ownsRow_nil _ _ _ _, fun g hg => by cases hg⟩⟩
      case round =>
        obtain ⟨k, own, hk, rfl, rfl, hon, hrw⟩ := hrel
        obtain ⟨fk, hfk⟩ : ∃ fk, fk = (ls.take k).flatten := ⟨_, rfl⟩
        obtain ⟨lk, hlk⟩ : ∃ lk, lk = (ls.take (min k S)).flatten.length := ⟨_, rfl⟩
        rw [← hfk, ← hlk] at hon
        rw [← hfk] at hrw
        rw [← hlk]
        have hlf : lk ≤ fk.length := by rw [hlk, hfk]; exact flat_le ls (Nat.min_le_left _ _)
        have hfl : fk.length ≤ 5000 := by rw [hfk]; exact Nat.le_trans (flat_all ls k) HL.out
        have HF := Lib.hid (And.intro hfk hlk)
        have HON := Lib.hid hon
        have HRW := Lib.hid hrw
        by_cases hlt : k < ls.length
        · obtain ⟨b1, o1, rfl, hbh, hc1⟩ := (HR.out.keep hon.un.below (Nat.le_refl _)) (by intro e; simp [e] at hlt)
          obtain ⟨C1, d1, e1, hb1⟩ := hc1 k ls[k] (List.getElem?_eq_getElem hlt)
          have hnx : (ls.take (k + 1)).flatten = fk ++ ls[k] := by rw [hfk]; exact flat_next hlt
          have hle := Nat.le_trans (flat_all ls (k + 1)) HL.out
          have HBX := Lib.hid (show Byte ls[k] ∧ (ls[k]).length ≤ 9223372036854775807 from HS.out ls[k] (List.getElem_mem hlt))
          generalize ls[k] = x at e1 hnx hb1 HBX
          rw [hnx, List.length_append] at hle
          have HSX := Lib.hid (hon.srcW hb1)
          have HE1 := Lib.hid (S_append (ex := decide (0 < k)) (bs := fk) (cs := x) (n := lk) (fun h => by
            have : k = 0 := by have := of_decide_eq_false h; omega
            subst this; rw [hfk, hlk]; simp) (by omega))
          have HNX := Lib.hid hnx
          obtain ⟨V, vc, rfl⟩ := own_shape hrw.row
          clear hnx hc1 hb1 hon hrw hfk hlk
          obtain ⟨i0, hi, hz0, hz1, hz2⟩ := info_parts infoByte
          have HI := Lib.hid (And.intro hi (And.intro hz0 (And.intro hz1 hz2)))
          clear hi hz0 hz1 hz2
          have HBH := Lib.hid hbh
          clear hbh
          have HE2 := Lib.hid (S_sync (fk ++ x) lk)
          by_cases hsy : k < S
          · go_wp2_with (first
              | (go_at_call 11; ((with_reducible refine (l_append HON.out.l C1 d1 x.length sF x HSX.out HX.out HBX.out.1 HBX.out.2 rfl HE1.out).mono ?_); rintro e w2 ⟨rfl, own2, hL, hN⟩; have O2 := Lib.hid (HON.out.next hL hN); have R2 := Lib.hid (HRW.out.next hN); have X2 := Lib.hid (HSX.out.next hN); have e2 := (O2.out.un.below.cell (p := ⟨b1, o1 + k, none⟩) HBH.out).trans ((HON.out.un.below.cell (p := ⟨b1, o1 + k, none⟩) HBH.out).symm.trans e1); clear hL hN))
              | (at_builtin; refine wpList_append_from _ rfl (.tmp 61) (.tmp 65) 22 rfl w.heap.size 5 i0 _ 1 1 Try.underlying22 HI.out.1 HI.out.2.1 HI.out.2.2.1 HI.out.2.2.2 rfl (by decide) (.slice V fk.length vc) fk.length (cellsB fk) rfl R2.out.row C1 x.length d1 (cellsB x) rfl X2.out.bytes.none (by simp [cellsB]) (cellsB_from X2.out.bytes) (cellsB_one x) (by unfold maxLen; omega) (by omega) O2.out.un.below.size ?_; intro v' w3 hown hgrow hat; have O3 := Lib.hid (O2.out.grown R2.out hgrow); have R3 := Lib.hid (Rw.grown O2.out R2.out hown rfl hat); obtain ⟨V3, vc3, rfl⟩ := own_shape hown; clear hown hgrow hat)
              | (go_at_call 12; ((with_reducible refine (l_sync O3.out.l sF HX.out HE2.out).mono ?_); rintro e w4 ⟨rfl, own4, hL, hN⟩; have O4 := Lib.hid (O3.out.next hL hN); have R4 := Lib.hid (R3.out.next hN); clear hL hN)))
            go_roundw
            case rel =>
              rw [show ((fk.length : Int) + (x.length : Int)) = (((fk ++ x).length : Nat) : Int) by simp]
              exact LstR.mk' hlt HNX.out (by rw [show min (k + 1) S = k + 1 by omega, HNX.out]) O4.out R4.out
            case measure => simp [intOf]; omega
          · go_wp2_with (first
              | (go_at_call 11; ((with_reducible refine (l_append HON.out.l C1 d1 x.length sF x HSX.out HX.out HBX.out.1 HBX.out.2 rfl HE1.out).mono ?_); rintro e w2 ⟨rfl, own2, hL, hN⟩; have O2 := Lib.hid (HON.out.next hL hN); have R2 := Lib.hid (HRW.out.next hN); have X2 := Lib.hid (HSX.out.next hN); have e2 := (O2.out.un.below.cell (p := ⟨b1, o1 + k, none⟩) HBH.out).trans ((HON.out.un.below.cell (p := ⟨b1, o1 + k, none⟩) HBH.out).symm.trans e1); clear hL hN))
              | (at_builtin; refine wpList_append_from _ rfl (.tmp 61) (.tmp 65) 22 rfl w.heap.size 5 i0 _ 1 1 Try.underlying22 HI.out.1 HI.out.2.1 HI.out.2.2.1 HI.out.2.2.2 rfl (by decide) (.slice V fk.length vc) fk.length (cellsB fk) rfl R2.out.row C1 x.length d1 (cellsB x) rfl X2.out.bytes.none (by simp [cellsB]) (cellsB_from X2.out.bytes) (cellsB_one x) (by unfold maxLen; omega) (by omega) O2.out.un.below.size ?_; intro v' w3 hown hgrow hat; have O3 := Lib.hid (O2.out.grown R2.out hgrow); have R3 := Lib.hid (Rw.grown O2.out R2.out hown rfl hat); obtain ⟨V3, vc3, rfl⟩ := own_shape hown; clear hown hgrow hat))
            go_roundw
            case rel => exact LstR.mk' hlt HNX.out (by rw [show min (k + 1) S = min k S by omega]; exact HF.out.2.symm) O3.out R3.out
            case measure => simp [intOf]; omega
        · obtain rfl : k = ls.length := by omega
          rw [List.take_length] at hfk
          obtain ⟨q, hq⟩ : ∃ q, q = min (lk + kp.toNat) (max lk fk.length) := ⟨_, rfl⟩
          have hqf : q ≤ fk.length := by omega
          obtain ⟨bq, hbq⟩ : ∃ bq, bq = fk.take q := ⟨_, rfl⟩
          have hlb : bq.length = q := by rw [hbq, List.length_take]; omega
          have HE3 := Lib.hid (show (stL (decide (0 < ls.length)) fk lk).crash kp = stL (decide (0 < ls.length)) bq q by rw [S_crash, ← hq, ← hbq])
          have HE4 := Lib.hid (show (stL (decide (0 < ls.length)) bq q).crash ag = stL (decide (0 < ls.length)) bq q by
            rw [S_crash, show min (q + ag.toNat) (max q bq.length) = q by omega, show bq.take q = bq by rw [← hlb, List.take_length]])
          have HE5 := Lib.hid (S_read (ex := decide (0 < ls.length)) (bs := bq) (n := q) (fun h => by
            have h0 : ls.length = 0 := by have := of_decide_eq_false h; omega
            have : ls = [] := List.length_eq_zero_iff.1 h0
            rw [hbq, hfk, this]; simp))
          obtain ⟨V, vc, rfl⟩ := own_shape hrw.row
          have hvc : fk.length ≤ vc := by
            obtain ⟨_, _, e, h7, _⟩ := own_bytes hrw.row rfl
            cases e; exact h7
          have hsl := fun W => run_h V fk.length vc q (by omega) W
          have w1 : IntKind.i64.wrap ((fk.length : Int) - (lk : Int)) = (fk.length : Int) - (lk : Int) := by rw [IntKind.wrap_i64]; omega
          have HLB := Lib.hid hlb
          have HBQ := Lib.hid (show bq = fk.take q ∧ q ≤ fk.length ∧ fk.length ≤ vc from ⟨hbq, hqf, hvc⟩)
          by_cases hpos : 0 < kp
          · have hw : (lk : Int) + min kp ((fk.length : Int) - (lk : Int)) = (q : Int) := by rw [hq]; omega
            clear hon hrw hfk hlk hq hbq hlb hqf hvc hlt hk
            go_wp2_with (first
              | (go_at_call 15; ((with_reducible refine (l_crash HON.out.l kp HKP.out HE3.out).mono ?_); rintro e w5 ⟨rfl, own5, hL, hN⟩; have O5 := Lib.hid (HON.out.next hL hN); have R5 := Lib.hid (HRW.out.next hN); clear hL hN))
              | (go_at_call 14; ((with_reducible refine (l_read O5.out.l sF HX.out HE5.out rfl).mono ?_); rintro e w6 ⟨Xb, xc, rfl, hown, hb⟩; have O6 := Lib.hid (O5.out.then hb); have R6 := Lib.hid (R5.out.then hb); have X6 := Lib.hid (Src.fresh O5.out.l hown); clear hown hb))
              | (go_at_call 15; ((with_reducible refine (l_crash O6.out.l ag HAG.out HE4.out).mono ?_); rintro e w7 ⟨rfl, own7, hL, hN⟩; have O7 := Lib.hid (O6.out.next hL hN); have R7 := Lib.hid (R6.out.next hN); have X7 := Lib.hid (X6.out.next hN); clear hL hN))
              | (go_at_call 14; ((with_reducible refine (l_read O7.out.l sF HX.out HE5.out rfl).mono ?_); rintro e w8 ⟨Yb, yc, rfl, hown, hb⟩; have O8 := Lib.hid (O7.out.then hb); have R8 := Lib.hid (R7.out.then hb); have X8 := Lib.hid (X7.out.below hb); have Y8 := Lib.hid (Src.fresh O7.out.l hown); clear hown hb)))
            have r1 : ∀ j, (convert 22 9 (.slice Xb bq.length xc)).run Try.prog (w8.drewN j) = .ok (.string (strOfNums bq)) (w8.drewN j) := fun j => conv_str (W := w8.drewN j) X8.out.bytes xc _ rfl
            have r2 : ∀ j, (convert 22 9 (.slice (cutAt V 0 vc) q vc)).run Try.prog (w8.drewN j) = .ok (.string (strOfNums bq)) (w8.drewN j) := fun j => (cuts_conv (W := w8.drewN j) (show Bytes w8.heap.size (w8.drewN j) V fk from R8.out.bytes) HBQ.out.2.1 HBQ.out.2.2 HBQ.out.1).1
            have r3 : ∀ j, (convert 22 9 (.slice Yb bq.length yc)).run Try.prog (w8.drewN j) = .ok (.string (strOfNums bq)) (w8.drewN j) := fun j => conv_str (W := w8.drewN j) Y8.out.bytes yc _ rfl
            go_quiet (fail)
            go_wp2
            go_ret
            exact ⟨rfl, below_drewN O8.out.un.below _⟩
          · have hql : lk = q := by omega
            subst hql
            clear hon hrw hfk hlk hq hbq hlb hqf hvc hlt hk
            go_wp2_with (first
              | (go_at_call 15; ((with_reducible refine (l_crash HON.out.l kp HKP.out HE3.out).mono ?_); rintro e w5 ⟨rfl, own5, hL, hN⟩; have O5 := Lib.hid (HON.out.next hL hN); have R5 := Lib.hid (HRW.out.next hN); clear hL hN))
              | (go_at_call 14; ((with_reducible refine (l_read O5.out.l sF HX.out HE5.out rfl).mono ?_); rintro e w6 ⟨Xb, xc, rfl, hown, hb⟩; have O6 := Lib.hid (O5.out.then hb); have R6 := Lib.hid (R5.out.then hb); have X6 := Lib.hid (Src.fresh O5.out.l hown); clear hown hb))
              | (go_at_call 15; ((with_reducible refine (l_crash O6.out.l ag HAG.out HE4.out).mono ?_); rintro e w7 ⟨rfl, own7, hL, hN⟩; have O7 := Lib.hid (O6.out.next hL hN); have R7 := Lib.hid (R6.out.next hN); have X7 := Lib.hid (X6.out.next hN); clear hL hN))
              | (go_at_call 14; ((with_reducible refine (l_read O7.out.l sF HX.out HE5.out rfl).mono ?_); rintro e w8 ⟨Yb, yc, rfl, hown, hb⟩; have O8 := Lib.hid (O7.out.then hb); have R8 := Lib.hid (R7.out.then hb); have X8 := Lib.hid (X7.out.below hb); have Y8 := Lib.hid (Src.fresh O7.out.l hown); clear hown hb)))
            have r1 : ∀ j, (convert 22 9 (.slice Xb bq.length xc)).run Try.prog (w8.drewN j) = .ok (.string (strOfNums bq)) (w8.drewN j) := fun j => conv_str (W := w8.drewN j) X8.out.bytes xc _ rfl
            have r2 : ∀ j, (convert 22 9 (.slice (cutAt V 0 vc) lk vc)).run Try.prog (w8.drewN j) = .ok (.string (strOfNums bq)) (w8.drewN j) := fun j => (cuts_conv (W := w8.drewN j) (show Bytes w8.heap.size (w8.drewN j) V fk from R8.out.bytes) HBQ.out.2.1 HBQ.out.2.2 HBQ.out.1).1
            have r3 : ∀ j, (convert 22 9 (.slice Yb bq.length yc)).run Try.prog (w8.drewN j) = .ok (.string (strOfNums bq)) (w8.drewN j) := fun j => conv_str (W := w8.drewN j) Y8.out.bytes yc _ rfl
            go_quiet (fail)
            go_wp2
            go_ret
            exact ⟨rfl, below_drewN O8.out.un.below _⟩
end Go.Proofs.Ytkieacidpiffpaa
