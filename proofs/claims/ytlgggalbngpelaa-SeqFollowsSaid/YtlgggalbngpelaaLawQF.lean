/- SeqFollows, the Go function: it comes out true. -/
import Derived.Test.YtlgggalbngpelaaSeqF
namespace Go.Proofs.Ytlgggalbngpelaa
open Go Go.RowKit
set_option linter.unusedVariables false
set_option linter.unusedSimpArgs false

theorem gnum_at {ok : Nat → Prop} {W : World} {b o : Nat} {l : List GV} (hE : GV.els ok W b 5 o l) (i : Nat) (g : GV) (h : l[i]? = some g) : W.cell? ⟨b, o + i * 5 + 1, none⟩ = some (.int .i64 g.num) := by
  obtain ⟨_, _, _, x1, _⟩ := GV.at_iff.1 (GV.els_get hE h)
  exact x1
/-- Where it was found, up to a place. -/
def fndI (ab : Bool) (av t : Nat) : Int := if ab = true ∧ av < t then av else -1
def FollowsRel (w : World) (P : Nat) (ab : Bool) (av : Nat) (f k : Value) (wr : World) : Prop := ∃ t : Nat, k = .int .i64 t ∧ f = .int .i64 (fndI ab av t) ∧ t ≤ P ∧ ∃ d, wr = w.drewN d
set_option maxRecDepth 100000 in
set_option maxHeartbeats 8000000 in
theorem qfollows_row (n k1 i1 j1 m1 i : Int) (w : World) (hn : 0 ≤ n ∧ n ≤ 255) (hk1 : 0 ≤ k1 ∧ k1 ≤ 255) (_hi1 : -9223372036854775808 ≤ i1 ∧ i1 ≤ 9223372036854775807) (_hj1 : -9223372036854775808 ≤ j1 ∧ j1 ≤ 9223372036854775807) (_hm1 : -9223372036854775808 ≤ m1 ∧ m1 ≤ 9223372036854775807) (_hi : -9223372036854775808 ≤ i ∧ i ≤ 9223372036854775807) :
    Calls Try.prog 6 #[.int .u8 n, .agg #[.int .u8 k1, .int .i64 i1, .int .i64 j1, .int .i64 m1], .int .i64 i] w fun e w' => e = .returned (.bool true) ∧ Below w.heap.size w w' := by
  obtain ⟨m, hm, hm1⟩ : ∃ m : Nat, 1 + n % 40 = (m : Int) ∧ 1 ≤ m ∧ m ≤ 40 := ⟨(1 + n % 40).toNat, by omega, by omega⟩
  obtain ⟨k, hk, hkm⟩ := mod_nat i m (by omega)
  have hlen := nums_len m
  have HK := Lib.hid (fun W => qknown_true W)
  have HN := Lib.hid (fun W => numbers_any m W (by omega))
  unfold ListOut at HN
  rw [hlen] at HN
  have HX := Lib.hid (fun W => in_any k1 i1 j1 m1 m W hk1 (by omega))
  have BXA := Lib.hid (Whole.new w 35 #[.int .u8 k1, .int .i64 i1, .int .i64 j1, .int .i64 m1])
  have B0 := Lib.hid (below_alloc w (.cells #[.int .u8 k1, .int .i64 i1, .int .i64 j1, .int .i64 m1] 35))
  clear hk1 _hi1 _hj1 _hm1
  go_enter Try.func6, Try.ntmps6
  go_wp2_with (first
    | (go_at_call 11; refine (HK.out _).mono ?_; rintro e w1 ⟨rfl, hb⟩; have A1 := Lib.hid (BXA.out.below hb BXA.out.lt); have B1 := Lib.hid (B0.out.trans (hb.mono B0.out.size)); clear hb)
    | (go_at_call 13; refine (HN.out _).mono ?_; rintro e w2 ⟨A, c, rfl, hl, hb⟩; have L2 := Lib.hid (show ListIn (numsG m) A c w2 by unfold ListIn; rw [nums_len]; exact hl); have B2 := Lib.hid (B1.out.trans (hb.mono B1.out.size)); have A2 := Lib.hid (A1.out.below hb A1.out.lt); obtain ⟨a0, a1, a2, a3⟩ := (⟨(A2.out.cell 0).trans rfl, (A2.out.cell 1).trans rfl, (A2.out.cell 2).trans rfl, (A2.out.cell 3).trans rfl⟩ : w2.cell? ⟨w.heap.size, 0, none⟩ = some (.int .u8 k1) ∧ w2.cell? ⟨w.heap.size, 1, none⟩ = some (.int .i64 i1) ∧ w2.cell? ⟨w.heap.size, 2, none⟩ = some (.int .i64 j1) ∧ w2.cell? ⟨w.heap.size, 3, none⟩ = some (.int .i64 m1)); clear hl hb)
    | (go_at_call 20; refine (HX.out _).mono ?_; rintro e w3 ⟨kx, ix, jx, ax, nx, rfl, hx, hxb, hb⟩; have OX := Lib.hid (And.intro hx hxb); have L3 := Lib.hid (L2.out.later hb); have B3 := Lib.hid (B2.out.trans (hb.mono B2.out.size)); clear a0 a1 a2 a3 hx hxb hb; have hokx : okC (numsG m).length (⟨kx, ix, jx, flat ax 5⟩ : Cm GV) := (by rw [hlen]; exact OX.out.1); have hwx := nums_weight _ (do_light (c := ⟨kx, ix, jx, flat ax 5⟩) (nums_light m) (by rw [flat_weight]; omega)); have hdl : (doL (numsG m) ⟨kx, ix, jx, flat ax 5⟩).length ≤ 1000 := (by rw [do_len hokx]; split <;> (try split) <;> omega); have HDO := Lib.hid (fun (W : World) (h : ListIn (numsG m) A c W) => do_flat A c (numsG m) kx ix jx ax 5 W h hokx (by omega) (by omega)); have HAT := Lib.hid (fun W => at_any k ix jx kx (none : Option Addr) none none 0 0 0 0 0 0 ⟨#[]⟩ ⟨#[]⟩ ⟨#[]⟩ 0 ax 5 W (by omega) (by have := OX.out.2; omega) (by have := OX.out.2; omega)); have HFA := Lib.hid (fun t => follows_at (k := k) (t := t) hokx hkm); have HLT := Lib.hid (at_lt (k := k) hokx hkm); have HLP := Lib.hid hdl; clear hokx hwx hdl; unfold DoOut at HDO; rw [hlen] at HDO; have X3 := Lib.hid (Whole.new w3 29 #[.int .u8 kx, .slice none 0 0, .string ⟨#[]⟩, .int .i64 ix, .int .i64 jx, .int .i64 0, .int .u8 ax, .int .i64 5, .string ⟨#[]⟩, .slice none 0 0, .slice none 0 0, .string ⟨#[]⟩]))
    | (go_at_call 15; refine (HDO.out _ (L3.out.later (below_alloc _ _))).mono ?_; rintro e w4 ⟨A4, c4, rfl, hl, hb⟩; have L4 := Lib.hid hl; have M4 := Lib.hid ((L3.out.later (below_alloc _ _)).later hb); have B4 := Lib.hid ((B3.out.alloc B3.out.size _).trans (hb.mono (by simp; have := B3.out.size; omega))); have X4 := Lib.hid (X3.out.below hb X3.out.lt); obtain ⟨x0, x1, x2, x3, x4, x5, x6, x7, x8, x9, x10, x11⟩ := X4.out.cd; clear hl hb)
    | (go_at_call 22; refine (HAT.out _).mono ?_; rintro e w5 ⟨rfl, hb⟩; have L5 := Lib.hid (L4.out.keep (ok' := fun _ => True) (From.of_below hb) (fun _ _ _ => trivial)); have M5 := Lib.hid (M4.out.later hb); have B5 := Lib.hid (B4.out.trans (hb.mono B4.out.size)); clear hb x0 x1 x2 x3 x4 x5 x6 x7 x8 x9 x10 x11))
  have hcl : ∃ b2 o2, A = some ⟨b2, o2, none⟩ ∧ w5.cell? ⟨b2, o2 + k * 5 + 1, none⟩ = some (.int .i64 (1000 + (k : Int))) := by
    obtain ⟨A', c', he, _, _, hf⟩ := M5.out.form
    simp only [Value.slice.injEq] at he
    obtain ⟨rfl, _, rfl⟩ := he
    obtain ⟨bb, oo, rfl, _, hE⟩ := hf (fun e => by rw [e] at hlen; simp at hlen; omega)
    exact ⟨bb, oo, rfl, num_at hE k _ (nums_get m k hkm)⟩
  obtain ⟨b2, o2, rfl, y2⟩ := hcl
  have hcp : ∀ t, t < (doL (numsG m) ⟨kx, ix, jx, flat ax 5⟩).length → ∃ b4 o4 z, A4 = some ⟨b4, o4, none⟩ ∧ w5.cell? ⟨b4, o4 + t * 5 + 1, none⟩ = some (.int .i64 z) ∧ (z = 1000 + (k : Int) ↔ (atB k kx ix = true ∧ atV k kx ix jx = t)) := fun t ht => by
    obtain ⟨g, hg, hiff⟩ := HFA.out t ht
    obtain ⟨A', c', he, _, _, hf⟩ := L5.out.form
    simp only [Value.slice.injEq] at he
    obtain ⟨rfl, _, rfl⟩ := he
    obtain ⟨bb, oo, rfl, _, hE⟩ := hf (fun e => by rw [e] at ht; simp at ht)
    exact ⟨bb, oo, g.num, rfl, gnum_at hE t g hg, hiff⟩
  have HCP := Lib.hid hcp
  have HL := Lib.hid HLT.out
  clear hcp L5 M5 L4 M4 L3 L2 HDO HN HK HX HAT HFA HLT X3 X4 OX B4 B3 B2 B1 A1 A2 hlen hk hm
  generalize (doL (numsG m) ⟨kx, ix, jx, flat ax 5⟩).length = P at *
  generalize atV k kx ix jx = av at *
  generalize atB k kx ix = ab at *
  have hk0 : (0 : Int) ≤ (k : Int) := by omega
  have hk1 : (k : Int) < (m : Int) := by omega
  have hP := HLP.out
  go_loopw [14, 15] (FollowsRel w5 P ab av) (fun _ i _ => P - (intOf i).toNat)
  case atStart => exact ⟨0, rfl, by simp [fndI], Nat.zero_le _, 0, rfl⟩
  case round =>
    obtain ⟨t, rfl, rfl, ht, d, rfl⟩ := hrel
    by_cases hlt : t < P
    · obtain ⟨b4, o4, z, rfl, y1, hiff⟩ := HCP.out t hlt
      have y3 : (w5.drewN d).cell? ⟨b4, o4 + t * 5 + 1, none⟩ = some (.int .i64 z) := by simpa using y1
      have y4 : (w5.drewN d).cell? ⟨b2, o2 + k * 5 + 1, none⟩ = some (.int .i64 (1000 + (k : Int))) := by simpa using y2
      have hn0 : (0 : Int) ≤ (t : Int) := by omega
      have hn1 : (t : Int) < (P : Int) := by omega
      by_cases hz : z = 1000 + (k : Int)
      · have h1 : ((z : Int) == 1000 + (k : Int)) = true := by simpa using hz
        have hf : fndI ab av (t + 1) = (t : Int) := by
          obtain ⟨h2, h3⟩ := hiff.1 hz
          unfold fndI
          rw [if_pos ⟨h2, by omega⟩, h3]
        have HF := Lib.hid hf
        clear hiff hz hf
        generalize fndI ab av t = f0 at *
        go_wp2
        go_quiet (fail)
        go_wp2
        go_roundw
        case rel => exact ⟨t + 1, by go_num, by rw [HF.out], by omega, d + nq, rfl⟩
        case measure => simp [intOf]; omega
      · have h1 : ((z : Int) == 1000 + (k : Int)) = false := by simpa using hz
        have hf : fndI ab av (t + 1) = fndI ab av t := by
          have h2 : ¬ (ab = true ∧ av = t) := fun h => hz (hiff.2 h)
          unfold fndI
          by_cases h3 : ab = true ∧ av < t
          · rw [if_pos h3, if_pos ⟨h3.1, by omega⟩]
          · rw [if_neg h3, if_neg (fun h => h3 ⟨h.1, by have : av ≠ t := fun e => h2 ⟨h.1, e⟩; omega⟩)]
        have HF := Lib.hid hf
        clear hiff hz hf
        generalize hf0 : fndI ab av t = f0 at *
        clear hf0
        go_wp2
        go_quiet (fail)
        go_wp2
        go_roundw
        case rel => exact ⟨t + 1, by go_num, by rw [HF.out], by omega, d + nq, rfl⟩
        case measure => simp [intOf]; omega
    · obtain rfl : t = P := by omega
      cases ab
      · rw [show fndI false av t = -1 by simp [fndI]]
        go_wp2
        go_ret
        exact ⟨rfl, below_drewN B5.out _⟩
      · have hav := HL.out rfl
        rw [show fndI true av t = (av : Int) by simp [fndI, hav]]
        go_wp2
        go_ret
        exact ⟨rfl, below_drewN B5.out _⟩
end Go.Proofs.Ytlgggalbngpelaa
