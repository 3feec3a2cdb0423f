/- DiskDoes, the Go function: it comes out true. -/
import Derived.Test.YtkieacidpiffpaaDsmK
import Derived.Test.YtkieacidpiffpaaLawDH
namespace Go.Proofs.Ytkieacidpiffpaa
open Go Go.RowKit Go.Shelf
set_option linter.unusedVariables false
set_option linter.unusedSimpArgs false

theorem ldoes_no (w : World) (z : Int) (hz : z < 0 ∨ 1048576 < z) : Calls Try.prog 10 #[.int .i64 z] w fun e w' => e = .returned (.pointer none) ∧ w' = w :=
  (new_no w z hz).mono fun e w' ⟨h1, h2⟩ => ⟨h1, h2.symm⟩
theorem ndoes_no (w : World) (z : Int) (hz : z < 0 ∨ 1048576 < z) : Calls Try.prog 18 #[.int .i64 z] w fun e w' => e = .returned (.pointer none) ∧ w' = w :=
  (rnew_no w z hz).mono fun e w' ⟨h1, h2⟩ => ⟨h1, h2.symm⟩
set_option maxRecDepth 100000 in
set_option maxHeartbeats 8000000 in
theorem ddoes_true (z : Int) (A1 : Option Addr) (ca1 : Nat) (xs : List OpG) (w : World) (hR : Opers w.heap.size w A1 xs) (ht1 : wo xs ≤ 1000000000) :
    Calls Try.prog 4 #[.int .i64 z, .slice A1 xs.length ca1] w fun e w' => e = .returned (.bool true) ∧ Below w.heap.size w w' := by
  have HR := Lib.hid hR
  have hwt1 := wo_wh xs
  have hn1 : xs.length ≤ 1000000000 := by omega
  have HV1 := Lib.hid (dheavy_any A1 ca1 xs.length xs w hR (Nat.le_refl _) (by omega) rfl hn1)
  clear hR hwt1 ht1
  by_cases hv : (decide (100 < xs.length) || decide (5000 < wh xs)) = true
  · rw [hv] at HV1
    clear hv
    go_enter Try.func4, Try.ntmps4
    go_wp2_with (first
      | (go_at_call 17; ((with_reducible refine HV1.out.mono ?_); rintro e w0 ⟨rfl, hb⟩; have HB0 := Lib.hid hb; clear hb))
      | (go_at_call 9; refine (known_true _).mono ?_; rintro e w2 ⟨rfl, hb⟩; have HB2 := Lib.hid (HB0.out.trans (hb.mono HB0.out.size)); clear hb))
    go_ret
    exact ⟨rfl, HB2.out⟩
  replace hv : (decide (100 < xs.length) || decide (5000 < wh xs)) = false := by simpa using hv
  rw [hv] at HV1
  have hs1 : xs.length ≤ 100 ∧ wh xs ≤ 5000 := by simpa using hv
  have HSM := Lib.hid hs1
  clear hv hs1
  by_cases hzb : z < 0 ∨ 1048576 < z
  · have HN1 := Lib.hid (fun W => ldoes_no W z hzb)
    have HN2 := Lib.hid (fun W => ndoes_no W z hzb)
    clear hzb
    go_enter Try.func4, Try.ntmps4
    go_wp2_with (first
      | (go_at_call 17; ((with_reducible refine HV1.out.mono ?_); rintro e w0 ⟨rfl, hb⟩; have HB0 := Lib.hid hb; clear hb))
      | (go_at_call 9; refine (known_true _).mono ?_; rintro e w2 ⟨rfl, hb⟩; have HB2 := Lib.hid (HB0.out.trans (hb.mono HB0.out.size)); clear hb)
      | (go_at_call 10; ((with_reducible refine (HN1.out _).mono ?_); rintro e w3 ⟨rfl, rfl⟩))
      | (go_at_call 18; ((with_reducible refine (HN2.out _).mono ?_); rintro e w4 ⟨rfl, rfl⟩)))
    go_ret
    exact ⟨rfl, HB2.out⟩
  obtain ⟨room, rfl⟩ : ∃ room : Nat, z = room := ⟨z.toNat, by omega⟩
  have hroom : room ≤ 1048576 := by omega
  have HN1 := Lib.hid (fun W => l_new W room hroom (room : Int) rfl)
  have HN2 := Lib.hid (fun W => n_new W room hroom (room : Int) rfl)
  clear hzb hroom
  go_enter Try.func4, Try.ntmps4
  go_wp2_with (first
    | (go_at_call 17; ((with_reducible refine HV1.out.mono ?_); rintro e w0 ⟨rfl, hb⟩; have HB0 := Lib.hid hb; clear hb))
    | (go_at_call 9; refine (known_true _).mono ?_; rintro e w2 ⟨rfl, hb⟩; have HB2 := Lib.hid (HB0.out.trans (hb.mono HB0.out.size)); clear hb)
    | (go_at_call 10; ((with_reducible refine (HN1.out _).mono ?_); rintro e w3 ⟨own1, B, rfl, hL, ho, hb⟩; have O3 := Lib.hid (On.mk (Un.mk (HB2.out.trans (hb.mono HB2.out.size)) (fun i hi => Nat.le_trans HB2.out.size (ho i hi))) hL); clear hL ho hb))
    | (go_at_call 18; ((with_reducible refine (HN2.out _).mono ?_); rintro e w4 ⟨own2, B2, rfl, hL, ho, hb⟩; have T4 := Lib.hid (show HlR w B B2 own1 own2 _ _ w4 from ⟨O3.out.un.below.trans (hb.mono O3.out.un.below.size), O3.out.un.own, fun i hi => Nat.le_trans O3.out.un.below.size (ho i hi), O3.out.l.below hb, hL, fun i hi h2 => by have := O3.out.l.lt hi; have := ho i h2; omega⟩); clear hL ho hb)))
  go_loopw [7] (fun i W => ∃ (k : Nat) (o1 o2 : Nat → Prop) (m : Md) (m2 : Rm), k ≤ xs.length ∧ i = .int .i64 k ∧ HlR w B B2 o1 o2 m m2 W ∧ Rel m m2) (fun i _ => xs.length - (intOf i).toNat)
  case atStart => exact ⟨0, own1, own2, _, _, Nat.zero_le _, rfl, T4.out, rel_new room⟩
  case round =>
    obtain ⟨k, o1, o2, m, m2, hk, rfl, hst, hrl⟩ := hrel
    have HST := Lib.hid hst
    by_cases hlt : k < xs.length
    · obtain ⟨b1, p1, rfl, hbh, hc1⟩ := (HR.out.keep hst.below (Nat.le_refl _)) (by intro e; simp [e] at hlt)
      have hop := hc1 k xs[k] (List.getElem?_eq_getElem hlt)
      have hwn := wh_next hlt
      have hwa := wh_all xs (k + 1)
      obtain ⟨x, hxk⟩ : ∃ x, x = xs[k] := ⟨_, rfl⟩
      rw [← hxk] at hop hwn
      obtain ⟨C, cc, hq2, hcB⟩ := hop.c2
      have hq0 : wr.cell? ⟨b1, p1 + k * 4, none⟩ = some (.int .u8 x.kind) := hop.c0
      have hq1 := hop.c1
      have hq3 := hop.c3
      have hfit : OpFit x := ⟨hop.byte, by have := HSM.out.2; omega, hop.n, hop.name⟩
      have hsrc1 : Src o1 wr C x.bs := fun hne => by
        obtain ⟨b, o, e, hb2, hcc⟩ := hcB hne
        exact ⟨b, o, e, fun hi => by have := hst.new1 b hi; omega, Nat.lt_of_lt_of_le hb2 hst.below.size, hcc⟩
      have hsrc2 : Src o2 wr C x.bs := fun hne => by
        obtain ⟨b, o, e, hb2, hcc⟩ := hcB hne
        exact ⟨b, o, e, fun hi => by have := hst.new2 b hi; omega, Nat.lt_of_lt_of_le hb2 hst.below.size, hcc⟩
      have HD := Lib.hid (does_any hst.two x C cc hsrc1 hsrc2 hfit hop.kind.1)
      have HRL := Lib.hid (rel_does hrl x)
      clear hst hop hwn hwa hxk hcB hfit hsrc1 hsrc2 hc1 hrl
      go_wp2_with (first
        | (go_at_call 19; ((with_reducible refine HD.out.mono ?_); rintro e w5 ⟨b, o3, o4, rfl, hb, hp⟩; obtain rfl : b = true := hb.2 HRL.out.2; have H5 := Lib.hid (HST.out.next hp); clear hp hb))
        | (go_at_call 20; ((with_reducible refine (same_any H5.out.two HRL.out.1).mono ?_); rintro e w6 ⟨rfl, hb⟩; have H6 := Lib.hid (show HlR w B B2 o3 o4 _ _ w6 from ⟨H5.out.below.trans (hb.mono H5.out.below.size), H5.out.new1, H5.out.new2, H5.out.two.below hb⟩); clear hb)))
      go_roundw
      case rel => exact ⟨k + 1, o3, o4, _, _, by omega, by go_num, H6.out, HRL.out.1⟩
      case measure => simp [intOf]; omega
    · obtain rfl : k = xs.length := by omega
      clear hst hlt hk hrl
      go_wp2
      go_ret
      exact ⟨rfl, HST.out.below⟩
end Go.Proofs.Ytkieacidpiffpaa
