/- DiskRoom, the Go function: it comes out true. -/
import Derived.Test.YtkieacidpiffpaaDskU
namespace Go.Proofs.Ytkieacidpiffpaa
open Go Go.RowKit Go.Shelf
set_option linter.unusedVariables false
set_option linter.unusedSimpArgs false

def RmR (w : World) (n R B : Nat) (i : Value) (W : World) : Prop := ∃ (k : Nat) (own : Nat → Prop) (m : Md), k ≤ n ∧ i = .int .i64 k ∧ On w own B m W ∧ m.plain ∧ m.room = R
theorem readB_le (m : Md) (s : ByteArray) : (readB m s).length ≤ sizes m.fs := by
  unfold readB
  cases h : m.look s with
  | none => exact Nat.zero_le _
  | some f => exact sizes_mem (List.mem_of_find?_eq_some h)
set_option maxRecDepth 100000 in
set_option maxHeartbeats 4000000 in
theorem droom_true (y : Int) (A : Option Addr) (ca : Nat) (xs : List OpG) (w : World) (hR : Opers w.heap.size w A xs) (hy : 0 ≤ y ∧ y ≤ 65535) (ht : wo xs ≤ 1000000000) :
    Calls Try.prog 7 #[.int .u16 y, .slice A xs.length ca] w fun e w' => e = .returned (.bool true) ∧ Below w.heap.size w w' := by
  have HR := Lib.hid hR
  have hwt := wo_wh xs
  have hn9 : xs.length ≤ 1000000000 := by omega
  have HV := Lib.hid (dheavy_any A ca xs.length xs w hR (Nat.le_refl _) (by omega) rfl hn9)
  have HW := Lib.hid hwt
  clear hR hwt ht
  by_cases hv : (decide (100 < xs.length) || decide (5000 < wh xs)) = true
  · rw [hv] at HV
    clear hv
    go_enter Try.func7, Try.ntmps7
    go_wp2_with (first
      | (go_at_call 17; refine HV.out.mono ?_; rintro e w0 ⟨rfl, hb⟩; have HB := Lib.hid hb; clear hb)
      | (go_at_call 9; refine (known_true _).mono ?_; rintro e w1 ⟨rfl, hb⟩; have HB1 := Lib.hid (HB.out.trans (hb.mono HB.out.size)); clear hb))
    go_ret
    exact ⟨rfl, HB1.out⟩
  · replace hv : (decide (100 < xs.length) || decide (5000 < wh xs)) = false := by simpa using hv
    rw [hv] at HV
    have hsm : xs.length ≤ 100 ∧ wh xs ≤ 5000 := by simpa using hv
    have HSM := Lib.hid hsm
    obtain ⟨R, hRm⟩ : ∃ R : Nat, y % 3000 = (R : Int) := ⟨(y % 3000).toNat, by omega⟩
    have hR3 : R < 3000 := by omega
    have hRm2 : y.tmod 3000 = (R : Int) := by rw [Int.tmod_eq_emod_of_nonneg hy.1]; exact hRm
    have HN0 := Lib.hid (fun W => l_new W R (by omega) (R : Int) rfl)
    clear hv hsm
    go_enter Try.func7, Try.ntmps7
    go_wp2_with (first
      | (go_at_call 17; refine HV.out.mono ?_; rintro e w0 ⟨rfl, hb⟩; have HB := Lib.hid hb; clear hb)
      | (go_at_call 9; refine (known_true _).mono ?_; rintro e w1 ⟨rfl, hb⟩; have HB1 := Lib.hid (HB.out.trans (hb.mono HB.out.size)); clear hb)
      | (go_at_call 10; ((with_reducible refine (HN0.out _).mono ?_); rintro e w2 ⟨own1, B, rfl, hL, ho, hb⟩; have O1 := Lib.hid (On.mk (Un.mk (HB1.out.trans (hb.mono HB1.out.size)) (fun i hi => Nat.le_trans HB1.out.size (ho i hi))) hL); clear hL ho hb)))
    go_loopw [6] (fun i W => RmR w xs.length R B i W) (fun i _ => xs.length - (intOf i).toNat)
    case atStart => exact ⟨0, own1, _, Nat.zero_le _, rfl, O1.out, ⟨rfl, rfl⟩, rfl⟩
    case round =>
      obtain ⟨k, own, m, hk, rfl, hon, hpl, hrm⟩ := hrel
      by_cases hlt : k < xs.length
      · obtain ⟨b1, o1, rfl, hbh, hc1⟩ := (HR.out.keep hon.un.below (Nat.le_refl _)) (by intro e; simp [e] at hlt)
        have hop := hc1 k xs[k] (List.getElem?_eq_getElem hlt)
        obtain ⟨x, hxk⟩ : ∃ x, x = xs[k] := ⟨_, rfl⟩
        rw [← hxk] at hop
        obtain ⟨C, cc, hp2, hcB⟩ := hop.c2
        have hp1 := hop.c1
        have HK := Lib.hid (fun (W : World) (hb : Below w.heap.size w W) => (show W.cell? ⟨b1, o1 + k * 4 + 1, none⟩ = some (.string x.name) ∧ W.cell? ⟨b1, o1 + k * 4 + 2, none⟩ = some (.slice C x.bs.length cc) ∧ Bytes w.heap.size W C x.bs from
          ⟨((hb.cell (p := ⟨b1, o1 + k * 4 + 1, none⟩) hbh).trans (hon.un.below.cell (p := ⟨b1, o1 + k * 4 + 1, none⟩) hbh).symm).trans hp1, ((hb.cell (p := ⟨b1, o1 + k * 4 + 2, none⟩) hbh).trans (hon.un.below.cell (p := ⟨b1, o1 + k * 4 + 2, none⟩) hbh).symm).trans hp2,
            fun hne => by obtain ⟨b, o, e, hb2, hcc⟩ := hcB hne; exact ⟨b, o, e, hb2, fun i t hi => ((hb.cell (p := ⟨b, o + i, none⟩) hb2).trans (hon.un.below.cell (p := ⟨b, o + i, none⟩) hb2).symm).trans (hcc i t hi)⟩⟩))
        have HNM := Lib.hid hop.name
        have HBY := Lib.hid (And.intro hop.byte (show x.bs.length ≤ 9223372036854775807 by
          have h1 := hop.byte
          have h2 := wh_next hlt
          have h3 := wh_all xs (k + 1)
          have h4 := HSM.out.2
          rw [← hxk] at h2
          omega))
        have HON := Lib.hid hon
        clear hp1 hp2 hcB
        have hbd := hon.l.bounds
        have hle := readB_le m x.name
        have hs1 : sizes m.fs ≤ 1048576 := by omega
        have hs2 : sizes m.fs ≤ R := by rw [← hrm]; exact hbd.1
        have HU := Lib.hid (l_used hon.l rfl)
        have HPL := Lib.hid (And.intro hpl hrm)
        have HXK := Lib.hid hxk
        clear hon hop hbh hbd hc1 hxk
        rcases append_says hpl x.name x.bs with ⟨hpl2, hrm2, ⟨hc, hrd⟩ | ⟨hc, hsame⟩⟩
        · have HC := Lib.hid (And.intro hc hrd)
          have HP2 := Lib.hid (And.intro hpl2 hrm2)
          clear hc hrd hpl2 hrm2 hpl hrm
          go_wp2_with (first
            | (go_at_call 16; ((with_reducible refine HU.out.mono ?_); rintro e w3 ⟨rfl, hb⟩; have O3 := Lib.hid (HON.out.then hb); obtain ⟨p3, _, _⟩ := HK.out _ O3.out.un.below; have HRD := Lib.hid (m_read O3.out.l x.name HNM.out rfl rfl); clear hb))
            | (go_at_call 14; ((with_reducible refine HRD.out.mono ?_); rintro e w4 ⟨X, xc, rfl, hown, hb⟩; have O4 := Lib.hid (O3.out.then hb); have X4 := Lib.hid (Src.fresh O3.out.l hown); clear hown hb)))
          obtain ⟨p41, p42, hb4⟩ := HK.out _ O4.out.un.below
          have HAP := Lib.hid (fun (W : World) (hW : W = w4.drew) => (hW ▸ m_append (w := w4.drew) (O4.out.l.keep fun _ _ => rfl) C cc x.bs.length x.name x.bs (show Src own w4.drew C x.bs from O4.out.srcW hb4) HNM.out HBY.out.1 HBY.out.2 rfl rfl : Calls Try.prog 11 #[.pointer (some ⟨B, 0, none⟩), .string x.name, .slice C x.bs.length cc] W (LRes own w4.drew B (m.append x.name x.bs))))
          clear hb4
          go_cut [10] (fun v W => v = .int .u16 (m.append x.name x.bs).2 ∧ ∃ own', On w own' B (m.append x.name x.bs).1 W ∧ Src own' W X (readB m x.name))
          case first =>
            go_region_held3 (fun W => W.cell? ⟨b1, o1 + k * 4 + 1, none⟩ = some (.string x.name) ∧ W.cell? ⟨b1, o1 + k * 4 + 2, none⟩ = some (.slice C x.bs.length cc))
              (first | exact K5.out | exact ⟨p41, p42⟩)
              (first
                | (go_at_call 11; ((with_reducible refine (HAP.out _ rfl).mono ?_); rintro e w5 ⟨rfl, own5, hL, hN⟩; have O5 := Lib.hid ((show On w own B m w4.drew from ⟨⟨O4.out.un.below.drew, O4.out.un.own⟩, O4.out.l.keep fun _ _ => rfl⟩).next hL hN); have X5 := Lib.hid ((show Src own w4.drew X (readB m x.name) from X4.out).next hN); have K5 := Lib.hid (show w5.cell? ⟨b1, o1 + k * 4 + 1, none⟩ = some (.string x.name) ∧ w5.cell? ⟨b1, o1 + k * 4 + 2, none⟩ = some (.slice C x.bs.length cc) from ⟨(HK.out _ O5.out.un.below).1, (HK.out _ O5.out.un.below).2.1⟩); clear hL hN)))
            all_goals go_wp2_with fail
            all_goals go_meet
            all_goals exact ⟨rfl, own5, O5.out, X5.out⟩
          case rest =>
            obtain ⟨rfl, own5, ho5, hx5⟩ := hcut
            rw [HC.out.1]
            obtain ⟨was, hwas⟩ : ∃ was, was = readB m x.name := ⟨_, rfl⟩
            obtain ⟨nw, hnw⟩ : ∃ nw, nw = was ++ x.bs := ⟨_, rfl⟩
            have hnl : nw.length = was.length + x.bs.length := by rw [hnw, List.length_append]
            have hwl : was.length ≤ 1048576 := by rw [hwas]; omega
            have hadd : strOfNums was ++ strOfNums x.bs = strOfNums nw := by rw [hnw]; exact strs_add was x.bs
            have hrd : readB (m.append x.name x.bs).1 x.name = nw := by rw [hnw, hwas]; exact HC.out.2
            obtain ⟨m2, hm2⟩ : ∃ m2, m2 = (m.append x.name x.bs).1 := ⟨_, rfl⟩
            rw [← hm2] at ho5 hrd
            rw [← hwas] at hx5
            rw [← hwas]
            have hb2 := ho5.l.bounds
            have hr2 : m2.room = R := by rw [hm2, HP2.out.2]; exact HPL.out.2
            have d1 : ¬ R < sizes m2.fs := by have := hb2.1; omega
            have d2 : ¬ 64 < m2.fs.length := by have := hb2.2.2; omega
            have hz1 := strs_size was
            have hz2 := strs_size x.bs
            have hbl : x.bs.length ≤ 5000 := by
              have h2 := wh_next hlt
              have h3 := wh_all xs (k + 1)
              have h4 := HSM.out.2
              rw [← HXK.out] at h2
              omega
            have hcat : ¬ 9223372036854775807 < was.length + x.bs.length := by omega
            have HM2 := Lib.hid (show m2.plain ∧ m2.room = R from ⟨by rw [hm2]; exact HP2.out.1, hr2⟩)
            have HRD2 := Lib.hid (m_read ho5.l x.name HNM.out hrd rfl)
            obtain ⟨p5, p6, hb5⟩ := HK.out _ ho5.un.below
            have O5 := Lib.hid ho5
            have X5 := Lib.hid hx5
            clear hnw hnl hwas hrd hm2 hb2 hr2 ho5 hx5 hb5 hwl hbl
            go_wp2_with (first
              | (go_at_call 14; ((with_reducible refine HRD2.out.mono ?_); rintro e w6 ⟨Y, yc, rfl, hown, hb⟩; have O6 := Lib.hid (O5.out.then hb); have X6 := Lib.hid (X5.out.below hb); have Y6 := Lib.hid (Src.fresh O5.out.l hown); have HU6 := Lib.hid (l_used (O5.out.l.below hb) rfl); clear hown hb))
              | (go_at_call 16; ((with_reducible refine HU6.out.mono ?_); rintro e w7 ⟨rfl, hb⟩; have O7 := Lib.hid (O6.out.then hb); have X7 := Lib.hid (X6.out.below hb); have Y7 := Lib.hid (Y6.out.below hb); have HN7 := Lib.hid (m_names (O6.out.l.below hb) rfl); clear hb))
              | (go_at_call 22; ((with_reducible refine HN7.out.mono ?_); rintro e w8 ⟨gN, cN, rfl, hb⟩; have O8 := Lib.hid (O7.out.then hb); have X8 := Lib.hid (X7.out.below hb); have Y8 := Lib.hid (Y7.out.below hb); clear hb)))
            obtain ⟨p7, p8, hb8⟩ := HK.out _ O8.out.un.below
            have HB8 := Lib.hid hb8
            have r1 : ∀ j, (convert 22 9 (.slice X was.length xc)).run Try.prog (w8.drewN j) = .ok (.string (strOfNums was)) (w8.drewN j) := fun j => conv_str (W := w8.drewN j) X8.out.bytes xc _ rfl
            have r2 : ∀ j, (convert 22 9 (.slice Y nw.length yc)).run Try.prog (w8.drewN j) = .ok (.string (strOfNums nw)) (w8.drewN j) := fun j => conv_str (W := w8.drewN j) Y8.out.bytes yc _ rfl
            have r3 : ∀ j, (convert 22 9 (.slice C x.bs.length cc)).run Try.prog (w8.drewN j) = .ok (.string (strOfNums x.bs)) (w8.drewN j) := fun j => conv_str (W := w8.drewN j) (show Bytes w.heap.size (w8.drewN j) C x.bs from HB8.out) cc _ rfl
            clear hb8 p5 p6
            go_quiet (fail)
            go_wp2
            go_roundw
            case rel => exact ⟨k + 1, own5, m2, by omega, by go_num, ⟨⟨below_drewN O8.out.un.below _, O8.out.un.own⟩, O8.out.l.keep fun _ _ => rfl⟩, HM2.out.1, HM2.out.2⟩
            case measure => simp [intOf]; omega
        · have HC := Lib.hid (And.intro hc hsame)
          clear hc hsame hpl2 hrm2 hpl hrm
          go_wp2_with (first
            | (go_at_call 16; ((with_reducible refine HU.out.mono ?_); rintro e w3 ⟨rfl, hb⟩; have O3 := Lib.hid (HON.out.then hb); obtain ⟨p3, _, _⟩ := HK.out _ O3.out.un.below; have HRD := Lib.hid (m_read O3.out.l x.name HNM.out rfl rfl); clear hb))
            | (go_at_call 14; ((with_reducible refine HRD.out.mono ?_); rintro e w4 ⟨X, xc, rfl, hown, hb⟩; have O4 := Lib.hid (O3.out.then hb); have X4 := Lib.hid (Src.fresh O3.out.l hown); clear hown hb)))
          obtain ⟨p41, p42, hb4⟩ := HK.out _ O4.out.un.below
          have HAP := Lib.hid (fun (W : World) (hW : W = w4.drew) => (hW ▸ m_append (w := w4.drew) (O4.out.l.keep fun _ _ => rfl) C cc x.bs.length x.name x.bs (show Src own w4.drew C x.bs from O4.out.srcW hb4) HNM.out HBY.out.1 HBY.out.2 rfl rfl : Calls Try.prog 11 #[.pointer (some ⟨B, 0, none⟩), .string x.name, .slice C x.bs.length cc] W (LRes own w4.drew B (m.append x.name x.bs))))
          clear hb4
          go_cut [10] (fun v W => v = .int .u16 (m.append x.name x.bs).2 ∧ ∃ own', On w own' B (m.append x.name x.bs).1 W ∧ Src own' W X (readB m x.name))
          case first =>
            go_region_held3 (fun W => W.cell? ⟨b1, o1 + k * 4 + 1, none⟩ = some (.string x.name) ∧ W.cell? ⟨b1, o1 + k * 4 + 2, none⟩ = some (.slice C x.bs.length cc))
              (first | exact K5.out | exact ⟨p41, p42⟩)
              (first
                | (go_at_call 11; ((with_reducible refine (HAP.out _ rfl).mono ?_); rintro e w5 ⟨rfl, own5, hL, hN⟩; have O5 := Lib.hid ((show On w own B m w4.drew from ⟨⟨O4.out.un.below.drew, O4.out.un.own⟩, O4.out.l.keep fun _ _ => rfl⟩).next hL hN); have X5 := Lib.hid ((show Src own w4.drew X (readB m x.name) from X4.out).next hN); have K5 := Lib.hid (show w5.cell? ⟨b1, o1 + k * 4 + 1, none⟩ = some (.string x.name) ∧ w5.cell? ⟨b1, o1 + k * 4 + 2, none⟩ = some (.slice C x.bs.length cc) from ⟨(HK.out _ O5.out.un.below).1, (HK.out _ O5.out.un.below).2.1⟩); clear hL hN)))
            all_goals go_wp2_with fail
            all_goals go_meet
            all_goals exact ⟨rfl, own5, O5.out, X5.out⟩
          case rest =>
            obtain ⟨rfl, own5, ho5, hx5⟩ := hcut
            rw [HC.out.1]
            rw [HC.out.2] at ho5
            obtain ⟨was, hwas⟩ : ∃ was, was = readB m x.name := ⟨_, rfl⟩
            rw [← hwas] at hx5
            rw [← hwas]
            have hb2 := ho5.l.bounds
            have hr2 := HPL.out.2
            have d1 : ¬ R < sizes m.fs := by have := hb2.1; omega
            have d2 : ¬ 64 < m.fs.length := by have := hb2.2.2; omega
            obtain ⟨p5, p6, _⟩ := HK.out _ ho5.un.below
            have HRD2 := Lib.hid (m_read ho5.l x.name HNM.out hwas.symm rfl)
            have O5 := Lib.hid ho5
            have X5 := Lib.hid hx5
            clear hwas hb2 hr2 ho5 hx5
            go_wp2_with (first
              | (go_at_call 14; ((with_reducible refine HRD2.out.mono ?_); rintro e w6 ⟨Y, yc, rfl, hown, hb⟩; have O6 := Lib.hid (O5.out.then hb); have X6 := Lib.hid (X5.out.below hb); have Y6 := Lib.hid (Src.fresh O5.out.l hown); have HU6 := Lib.hid (l_used (O5.out.l.below hb) rfl); clear hown hb))
              | (go_at_call 16; ((with_reducible refine HU6.out.mono ?_); rintro e w7 ⟨rfl, hb⟩; have O7 := Lib.hid (O6.out.then hb); have X7 := Lib.hid (X6.out.below hb); have Y7 := Lib.hid (Y6.out.below hb); have HN7 := Lib.hid (m_names (O6.out.l.below hb) rfl); clear hb))
              | (go_at_call 22; ((with_reducible refine HN7.out.mono ?_); rintro e w8 ⟨gN, cN, rfl, hb⟩; have O8 := Lib.hid (O7.out.then hb); have X8 := Lib.hid (X7.out.below hb); have Y8 := Lib.hid (Y7.out.below hb); have HU8 := Lib.hid (l_used (O7.out.l.below hb) rfl); clear hb))
              | (go_at_call 16; ((with_reducible refine HU8.out.mono ?_); rintro e w9 ⟨rfl, hb⟩; have O9 := Lib.hid (O8.out.then hb); have c1 := conv_str (X8.out.below hb).bytes xc was.length rfl; have c2 := conv_str (Y8.out.below hb).bytes yc was.length rfl; clear hb)))
            go_quiet (fail)
            go_wp2
            go_roundw
            case rel => exact ⟨k + 1, own5, m, by omega, by go_num, ⟨⟨below_drewN O9.out.un.below _, O9.out.un.own⟩, O9.out.l.keep fun _ _ => rfl⟩, HPL.out.1, HPL.out.2⟩
            case measure => simp [intOf]; omega
      · obtain rfl : k = xs.length := by omega
        have HON := Lib.hid hon
        clear hon hlt hk
        go_wp2
        go_ret
        exact ⟨rfl, HON.out.un.below⟩
end Go.Proofs.Ytkieacidpiffpaa
