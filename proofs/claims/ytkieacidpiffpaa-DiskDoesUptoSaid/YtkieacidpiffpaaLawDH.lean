/- DiskHalts, the Go function: it comes out true. -/
import Derived.Test.YtkieacidpiffpaaDsmG
import Derived.BigQuiet
namespace Go.Proofs.Ytkieacidpiffpaa
open Go Go.RowKit Go.Shelf
set_option linter.unusedVariables false
set_option linter.unusedSimpArgs false

structure HlR (w : World) (B B2 : Nat) (own own2 : Nat → Prop) (m : Md) (m2 : Rm) (W : World) : Prop where
  below : Below w.heap.size w W
  new1 : ∀ i, own i → w.heap.size ≤ i
  new2 : ∀ i, own2 i → w.heap.size ≤ i
  two : Two own own2 W B B2 m m2
theorem HlR.next {w W W' : World} {B B2 : Nat} {own own2 o1 o2 : Nat → Prop} {m m' : Md} {m2 m2' : Rm} (h : HlR w B B2 own own2 m m2 W) (p : Pair own own2 W B B2 o1 o2 m' m2' W') : HlR w B B2 o1 o2 m' m2' W' :=
  ⟨h.below.trans (p.kp.below h.below.size fun i hi => hi.elim (h.new1 i) (h.new2 i)), fun i hi => (p.new1 i hi).elim (h.new1 i) fun h2 => Nat.le_trans h.below.size h2, fun i hi => (p.new2 i hi).elim (h.new2 i) fun h2 => Nat.le_trans h.below.size h2, p.two⟩
structure HlS (w : World) (B : Nat) (own : Nat → Prop) (m : Md) (g : Nat) (W : World) : Prop where
  on : On w own B m W
  row : StrRow W g (nmS m.fs)
  off : ¬ own g
theorem HlS.next {w W W' : World} {B g : Nat} {own o' : Nat → Prop} {m : Md} (h : HlS w B own m g W) (hl : Lk o' W' B m) (hn : Nx own W W' o') : HlS w B o' m g W' :=
  ⟨h.on.next hl hn, h.row.of_eq hn.1.size (hn.1.block g h.row.1 h.off), fun hi => by
    rcases hn.2 g hi with h3 | h3
    · exact h.off h3
    · have := h.row.1; omega⟩
theorem HlS.then {w W W' : World} {B g : Nat} {own : Nat → Prop} {m : Md} (h : HlS w B own m g W) (hb : Below W.heap.size W W') : HlS w B own m g W' := ⟨h.on.then hb, h.row.below hb, h.off⟩
set_option maxRecDepth 100000 in
set_option maxHeartbeats 8000000 in
theorem dhalts_true (A1 A2 : Option Addr) (ca1 ca2 : Nat) (xs ys : List OpG) (w : World) (hR : Opers w.heap.size w A1 xs) (hQ : Opers w.heap.size w A2 ys) (ht1 : wo xs ≤ 1000000000) (ht2 : wo ys ≤ 1000000000) :
    Calls Try.prog 6 #[.slice A1 xs.length ca1, .slice A2 ys.length ca2] w fun e w' => e = .returned (.bool true) ∧ Below w.heap.size w w' := by
  have HR := Lib.hid (And.intro hR hQ)
  have hwt1 := wo_wh xs
  have hwt2 := wo_wh ys
  have hn1 : xs.length ≤ 1000000000 := by omega
  have hn2 : ys.length ≤ 1000000000 := by omega
  have HV1 := Lib.hid (dheavy_any A1 ca1 xs.length xs w hR (Nat.le_refl _) (by omega) rfl hn1)
  have HV2 := Lib.hid (fun W (hb : Below w.heap.size w W) => dheavy_any A2 ca2 ys.length ys W (hQ.keep hb (Nat.le_refl _)) hb.size (by omega) rfl hn2)
  have HW := Lib.hid (And.intro hwt1 hwt2)
  clear hR hQ hwt1 hwt2 ht1 ht2
  by_cases hv : (decide (100 < xs.length) || decide (5000 < wh xs)) = true
  · rw [hv] at HV1
    clear hv
    go_enter Try.func6, Try.ntmps6
    go_wp2_with (first
      | (go_at_call 17; ((with_reducible refine HV1.out.mono ?_); rintro e w0 ⟨rfl, hb⟩; have HB0 := Lib.hid hb; clear hb))
      | (go_at_call 9; refine (known_true _).mono ?_; rintro e w2 ⟨rfl, hb⟩; have HB2 := Lib.hid (HB0.out.trans (hb.mono HB0.out.size)); clear hb))
    go_ret
    exact ⟨rfl, HB2.out⟩
  replace hv : (decide (100 < xs.length) || decide (5000 < wh xs)) = false := by simpa using hv
  rw [hv] at HV1
  by_cases hu : (decide (100 < ys.length) || decide (5000 < wh ys)) = true
  · rw [hu] at HV2
    clear hv hu
    go_enter Try.func6, Try.ntmps6
    go_wp2_with (first
      | (go_at_call 17; ((with_reducible refine HV1.out.mono ?_); rintro e w0 ⟨rfl, hb⟩; have HB0 := Lib.hid hb; clear hb))
      | (go_at_call 17; ((with_reducible refine (HV2.out _ HB0.out).mono ?_); rintro e w1 ⟨rfl, hb⟩; have HB1 := Lib.hid (HB0.out.trans (hb.mono HB0.out.size)); clear hb))
      | (go_at_call 9; refine (known_true _).mono ?_; rintro e w2 ⟨rfl, hb⟩; have HB2 := Lib.hid (HB1.out.trans (hb.mono HB1.out.size)); clear hb))
    go_ret
    exact ⟨rfl, HB2.out⟩
  replace hu : (decide (100 < ys.length) || decide (5000 < wh ys)) = false := by simpa using hu
  rw [hu] at HV2
  have hs1 : xs.length ≤ 100 ∧ wh xs ≤ 5000 := by simpa using hv
  have hs2 : ys.length ≤ 100 ∧ wh ys ≤ 5000 := by simpa using hu
  have HSM := Lib.hid (And.intro hs1 hs2)
  clear hv hu hs1 hs2
  go_enter Try.func6, Try.ntmps6
  go_wp2_with (first
    | (go_at_call 17; ((with_reducible refine HV1.out.mono ?_); rintro e w0 ⟨rfl, hb⟩; have HB0 := Lib.hid hb; clear hb))
    | (go_at_call 17; ((with_reducible refine (HV2.out _ HB0.out).mono ?_); rintro e w1 ⟨rfl, hb⟩; have HB1 := Lib.hid (HB0.out.trans (hb.mono HB0.out.size)); clear hb))
    | (go_at_call 9; refine (known_true _).mono ?_; rintro e w2 ⟨rfl, hb⟩; have HB2 := Lib.hid (HB1.out.trans (hb.mono HB1.out.size)); clear hb)
    | (go_at_call 10; ((with_reducible refine (l_new _ 5000 (by omega) 5000 rfl).mono ?_); rintro e w3 ⟨own1, B, rfl, hL, ho, hb⟩; have O3 := Lib.hid (On.mk (Un.mk (HB2.out.trans (hb.mono HB2.out.size)) (fun i hi => Nat.le_trans HB2.out.size (ho i hi))) hL); clear hL ho hb))
    | (go_at_call 18; ((with_reducible refine (n_new _ 5000 (by omega) 5000 rfl).mono ?_); rintro e w4 ⟨own2, B2, rfl, hL, ho, hb⟩; have T4 := Lib.hid (show HlR w B B2 own1 own2 _ _ w4 from ⟨O3.out.un.below.trans (hb.mono O3.out.un.below.size), O3.out.un.own, fun i hi => Nat.le_trans O3.out.un.below.size (ho i hi), O3.out.l.below hb, hL, fun i hi h2 => by have := O3.out.l.lt hi; have := ho i h2; omega⟩); clear hL ho hb)))
  go_loopw [7] (fun i W => ∃ (k : Nat) (o1 o2 : Nat → Prop) (m : Md) (m2 : Rm), k ≤ xs.length ∧ i = .int .i64 k ∧ HlR w B B2 o1 o2 m m2 W) (fun i _ => xs.length - (intOf i).toNat)
  case atStart => exact ⟨0, own1, own2, _, _, Nat.zero_le _, rfl, T4.out⟩
  case round =>
    obtain ⟨k, o1, o2, m, m2, hk, rfl, hst⟩ := hrel
    have HST := Lib.hid hst
    by_cases hlt : k < xs.length
    · obtain ⟨b1, p1, rfl, hbh, hc1⟩ := (HR.out.1.keep hst.below (Nat.le_refl _)) (by intro e; simp [e] at hlt)
      have hop := hc1 k xs[k] (List.getElem?_eq_getElem hlt)
      have hwn := wh_next hlt
      have hwa := wh_all xs (k + 1)
      obtain ⟨x, hxk⟩ : ∃ x, x = xs[k] := ⟨_, rfl⟩
      rw [← hxk] at hop hwn
      obtain ⟨C, cc, hq2, hcB⟩ := hop.c2
      have hq0 : wr.cell? ⟨b1, p1 + k * 4, none⟩ = some (.int .u8 x.kind) := hop.c0
      have hq1 := hop.c1
      have hq3 := hop.c3
      have hfit : OpFit x := ⟨hop.byte, by have := HSM.out.1.2; omega, hop.n, hop.name⟩
      have hsrc1 : Src o1 wr C x.bs := fun hne => by
        obtain ⟨b, o, e, hb2, hcc⟩ := hcB hne
        exact ⟨b, o, e, fun hi => by have := hst.new1 b hi; omega, Nat.lt_of_lt_of_le hb2 hst.below.size, hcc⟩
      have hsrc2 : Src o2 wr C x.bs := fun hne => by
        obtain ⟨b, o, e, hb2, hcc⟩ := hcB hne
        exact ⟨b, o, e, fun hi => by have := hst.new2 b hi; omega, Nat.lt_of_lt_of_le hb2 hst.below.size, hcc⟩
      have HD := Lib.hid (does_any hst.two x C cc hsrc1 hsrc2 hfit hop.kind.1)
      clear hst hop hwn hwa hxk hcB hfit hsrc1 hsrc2 hc1
      go_wp2_with (go_at_call 19; ((with_reducible refine HD.out.mono ?_); rintro e w5 ⟨b, o3, o4, rfl, _, hp⟩; have H5 := Lib.hid (HST.out.next hp); clear hp))
      go_roundw
      case rel => exact ⟨k + 1, o3, o4, _, _, by omega, by go_num, H5.out⟩
      case measure => simp [intOf]; omega
    · obtain rfl : k = xs.length := by omega
      clear hst hlt hk
      have HH := Lib.hid (m_halt HST.out.two.l 0 (by decide))
      obtain ⟨mh, hmh⟩ : ∃ mh, mh = m.halt 0 := ⟨_, rfl⟩
      rw [← hmh] at HH
      have hl0 : mh.left = 0 := by rw [hmh]; rfl
      have HL0 := Lib.hid hl0
      clear hmh hl0
      go_wp2_with (first
        | (go_at_call 21; ((with_reducible refine HH.out.mono ?_); rintro e w5 ⟨rfl, o5, hL, hN⟩; have O5 := Lib.hid (On.next (On.mk (Un.mk HST.out.below HST.out.new1) HST.out.two.l) hL hN); clear hL hN))
        | (go_at_call 22; ((with_reducible refine (m_namesS O5.out.l rfl).mono ?_); rintro e w6 ⟨g, cg, rfl, hrow, hge, hb⟩; have S6 := Lib.hid (show HlS w B o5 mh g w6 from ⟨O5.out.then hb, hrow, fun hi => by have := O5.out.l.lt hi; omega⟩); clear hrow hge hb))
        | (go_at_call 16; ((with_reducible refine (l_used S6.out.on.l rfl).mono ?_); rintro e w7 ⟨rfl, hb⟩; have S7 := Lib.hid (S6.out.then hb); clear hb)))
      go_loopw [10] (fun i W => ∃ (k : Nat) (o : Nat → Prop), k ≤ ys.length ∧ i = .int .i64 k ∧ HlS w B o mh g W) (fun i _ => ys.length - (intOf i).toNat)
      case atStart => exact ⟨0, o5, Nat.zero_le _, rfl, S7.out⟩
      case round =>
        obtain ⟨k, o, hk, rfl, hs⟩ := hrel
        have HS := Lib.hid hs
        by_cases hlt : k < ys.length
        · obtain ⟨b1, p1, rfl, hbh, hc1⟩ := (HR.out.2.keep hs.on.un.below (Nat.le_refl _)) (by intro e; simp [e] at hlt)
          have hop := hc1 k ys[k] (List.getElem?_eq_getElem hlt)
          have hwn := wh_next hlt
          have hwa := wh_all ys (k + 1)
          obtain ⟨x, hxk⟩ : ∃ x, x = ys[k] := ⟨_, rfl⟩
          rw [← hxk] at hop hwn
          obtain ⟨C, cc, hq2, hcB⟩ := hop.c2
          have hq1 := hop.c1
          have hq3 := hop.c3
          have hlen : x.bs.length ≤ 9223372036854775807 := by have := HSM.out.2.2; omega
          have HK := Lib.hid (fun (W : World) (hb : Below w.heap.size w W) => (show W.cell? ⟨b1, p1 + k * 4 + 1, none⟩ = some (.string x.name) ∧ W.cell? ⟨b1, p1 + k * 4 + 2, none⟩ = some (.slice C x.bs.length cc) ∧ W.cell? ⟨b1, p1 + k * 4 + 3, none⟩ = some (.int .i64 x.n) from
            ⟨((hb.cell (p := ⟨b1, p1 + k * 4 + 1, none⟩) hbh).trans (hs.on.un.below.cell (p := ⟨b1, p1 + k * 4 + 1, none⟩) hbh).symm).trans hq1, ((hb.cell (p := ⟨b1, p1 + k * 4 + 2, none⟩) hbh).trans (hs.on.un.below.cell (p := ⟨b1, p1 + k * 4 + 2, none⟩) hbh).symm).trans hq2, ((hb.cell (p := ⟨b1, p1 + k * 4 + 3, none⟩) hbh).trans (hs.on.un.below.cell (p := ⟨b1, p1 + k * 4 + 3, none⟩) hbh).symm).trans hq3⟩))
          have hby : ∀ (W : World) (hb : Below w.heap.size w W), Bytes w.heap.size W C x.bs := fun W hb hne => by
            obtain ⟨b, o, e, hb2, hcc⟩ := hcB hne
            exact ⟨b, o, e, hb2, fun i t hi => ((hb.cell (p := ⟨b, o + i, none⟩) hb2).trans (hs.on.un.below.cell (p := ⟨b, o + i, none⟩) hb2).symm).trans (hcc i t hi)⟩
          have hsay := halted_says HL0.out x.name x.bs x.n
          have HA := Lib.hid (fun (o : Nat → Prop) W (h : HlS w B o mh g W) => m_append h.on.l C cc x.bs.length x.name x.bs (h.on.srcW (hby W h.on.un.below)) hop.name hop.byte hlen rfl hsay.1)
          have HSY := Lib.hid (fun (o : Nat → Prop) W (h : HlS w B o mh g W) => m_sync h.on.l x.name hop.name hsay.2.1)
          have HCU := Lib.hid (fun (o : Nat → Prop) W (h : HlS w B o mh g W) => m_cut h.on.l x.name hop.name x.n hop.n hsay.2.2.1)
          have HDR := Lib.hid (fun (o : Nat → Prop) W (h : HlS w B o mh g W) => m_drop h.on.l x.name hop.name hsay.2.2.2)
          have hdt : decide (mh.left = 0) = true := decide_eq_true HL0.out
          have HHA := Lib.hid (fun (o : Nat → Prop) W (h : HlS w B o mh g W) => (hdt ▸ m_halted h.on.l : Calls Try.prog 24 #[.pointer (some ⟨B, 0, none⟩)] W fun e w' => e = .returned (.bool true) ∧ W = w'))
          have S0 := Lib.hid (HS.out.then (Below.refl wr.heap.size wr).drew)
          have K0 := Lib.hid (HK.out _ S0.out.on.un.below)
          obtain ⟨z1, z2, z3⟩ := HK.out _ hs.on.un.below
          clear hs hop hwn hwa hxk hcB hlen hby hsay hdt hc1 hq1 hq2 hq3
          go_upto_region 17 with fail
          go_cut [108] (fun v W => v = .bool false ∧ ∃ o, HlS w B o mh g W)
          case first =>
            go_region_held3 (fun W => W.cell? ⟨b1, p1 + k * 4 + 1, none⟩ = some (.string x.name) ∧ W.cell? ⟨b1, p1 + k * 4 + 2, none⟩ = some (.slice C x.bs.length cc) ∧ W.cell? ⟨b1, p1 + k * 4 + 3, none⟩ = some (.int .i64 x.n))
              (first | exact K8.out | exact K7.out | exact K6.out | exact K5.out | exact K0.out | exact ⟨z1, z2, z3⟩)
              (first
                | (go_at_call 11; ((with_reducible refine (HA.out _ _ S0.out).mono ?_); rintro e w5 ⟨rfl, o5, hL, hN⟩; have S5 := Lib.hid (S0.out.next hL hN); have K5 := Lib.hid (HK.out _ S5.out.on.un.below); clear hL hN))
                | (go_at_call 12; ((with_reducible refine (HSY.out _ _ S5.out).mono ?_); rintro e w6 ⟨rfl, o6, hL, hN⟩; have S6 := Lib.hid (S5.out.next hL hN); have K6 := Lib.hid (HK.out _ S6.out.on.un.below); clear hL hN))
                | (go_at_call 13; ((with_reducible refine (HCU.out _ _ S6.out).mono ?_); rintro e w7 ⟨rfl, o7, hL, hN⟩; have S7 := Lib.hid (S6.out.next hL hN); have K7 := Lib.hid (HK.out _ S7.out.on.un.below); clear hL hN))
                | (go_at_call 23; ((with_reducible refine (HDR.out _ _ S7.out).mono ?_); rintro e w8 ⟨rfl, o8, hL, hN⟩; have S8 := Lib.hid (S7.out.next hL hN); have K8 := Lib.hid (HK.out _ S8.out.on.un.below); clear hL hN))
                | (go_at_call 24; ((with_reducible refine (HHA.out _ _ S8.out).mono ?_); rintro e w9 ⟨rfl, rfl⟩)))
            all_goals go_wp2_with fail
            all_goals go_meet
            all_goals exact ⟨rfl, _, S8.out⟩
          case rest =>
            obtain ⟨rfl, o8, h8⟩ := hcut
            have H8 := Lib.hid h8
            clear h8
            go_wp2
            go_roundw
            case rel => exact ⟨k + 1, o8, by omega, by go_num, H8.out⟩
            case measure => simp [intOf]; omega
        · obtain rfl : k = ys.length := by omega
          clear hlt hk
          have hbd := hs.on.l.bounds
          obtain ⟨mc, hmc⟩ : ∃ mc, mc = mh.crash 0 := ⟨_, rfl⟩
          have hcf : mc.full = false ∧ mc.left = -1 ∧ decide (mc.left = 0) = false := by rw [hmc]; exact ⟨rfl, rfl, rfl⟩
          have HCF := Lib.hid hcf
          have HMC := Lib.hid hmc
          have hm64 : mh.fs.length ≤ 1000000 := by omega
          have hdl := hcf.2.2
          have HM64 := Lib.hid hm64
          clear hs hbd hm64 hcf hmc
          go_upto_region 21 with (first
            | (go_at_call 22; ((with_reducible refine (m_namesS HS.out.on.l rfl).mono ?_); rintro e w8 ⟨g8, c8, rfl, hrow, hge, hb⟩; have S8 := Lib.hid (HS.out.then hb); have R8 := Lib.hid hrow; clear hrow hge hb))
            | (go_at_call 25; ((with_reducible refine (texts_same R8.out S8.out.row (nmS_length _).symm HM64.out).mono ?_); rintro e w9 ⟨rfl, hb⟩; have S9 := Lib.hid (S8.out.then hb); clear hb))
            | (go_at_call 16; ((with_reducible refine (l_used S9.out.on.l rfl).mono ?_); rintro e w10 ⟨rfl, hb⟩; have S10 := Lib.hid (S9.out.then hb); clear hb))
            | (go_at_call 15; ((with_reducible refine (l_crash S10.out.on.l 0 (by decide) HMC.out.symm).mono ?_); rintro e w11 ⟨rfl, o11, hL, hN⟩; have O11 := Lib.hid (S10.out.on.next hL hN); clear hL hN)))
          have hbd := O11.out.l.bounds
          by_cases h64 : 64 ≤ mc.fs.length
          · have d1 : decide ((64 : Int) ≤ (mc.fs.length : Int)) = true := decide_eq_true (by omega)
            have d2 : decide (64 ≤ mc.fs.length) = true := decide_eq_true h64
            clear hbd
            go_wp2_with (first
              | (go_at_call 24; ((with_reducible refine (m_halted O11.out.l).mono ?_); rintro e w12 ⟨rfl, rfl⟩))
              | (go_at_call 22; ((with_reducible refine (m_names O11.out.l rfl).mono ?_); rintro e w13 ⟨g13, c13, rfl, hb⟩; have O13 := Lib.hid (O11.out.then hb); clear hb)))
            go_ret
            exact ⟨rfl, O13.out.un.below⟩
          · have d1 : decide ((64 : Int) ≤ (mc.fs.length : Int)) = false := decide_eq_false (by omega)
            have hap := tilde_ok HCF.out.1 HCF.out.2.1 hbd.1 (by omega)
            obtain ⟨ma, hma⟩ : ∃ ma, mc.append ⟨#[126]⟩ [] = (ma, 0) := ⟨(mc.append ⟨#[126]⟩ []).1, by rw [← hap]⟩
            have HMA := Lib.hid hma
            have d2 : decide (64 ≤ mc.fs.length) = false := decide_eq_false h64
            have HAP := Lib.hid (fun (o : Nat → Prop) W (h : Lk o W B mc) => (m_append h none 0 0 ⟨#[126]⟩ [] (fun h => absurd rfl h) (by unfold maxLen; decide) (fun x hx => by cases hx) (by decide) rfl hma : Calls Try.prog 11 #[.pointer (some ⟨B, 0, none⟩), .string ⟨#[126]⟩, .slice none 0 0] W (LRes o W B (ma, 0))))
            clear hbd hap hma
            go_wp2_with (first
              | (go_at_call 24; ((with_reducible refine (m_halted O11.out.l).mono ?_); rintro e w12 ⟨rfl, rfl⟩))
              | (go_at_call 22; ((with_reducible refine (m_names O11.out.l rfl).mono ?_); rintro e w13 ⟨g13, c13, rfl, hb⟩; have O13 := Lib.hid (O11.out.then hb); clear hb))
              | (go_at_call 11; ((with_reducible refine (HAP.out _ _ O13.out.l).mono ?_); rintro e w14 ⟨rfl, o14, hL, hN⟩; have O14 := Lib.hid (O13.out.next hL hN); clear hL hN)))
            go_ret
            exact ⟨rfl, O14.out.un.below⟩
end Go.Proofs.Ytkieacidpiffpaa
