/- Same: both disks are alike. -/
import Derived.Test.YtkieacidpiffpaaDsmJ
namespace Go.Proofs.Ytkieacidpiffpaa
open Go Go.RowKit Go.Shelf
set_option linter.unusedVariables false
set_option linter.unusedSimpArgs false

def StrAt (W : World) (A : Option Addr) (ls : List (List UInt8)) : Prop := ls ≠ [] → ∃ g, A = some ⟨g, 0, none⟩ ∧ StrRow W g ls
set_option maxHeartbeats 2000000 in
theorem texts_all {w : World} {g1 n c1 c2 : Nat} {A2 : Option Addr} {ls : List (List UInt8)} (h1 : StrRow w g1 ls) (h2 : StrAt w A2 ls) (hn : n = ls.length) (hm : n ≤ 1000000) :
    Calls Try.prog 25 #[.slice (some ⟨g1, 0, none⟩) n c1, .slice A2 n c2] w fun e w' => e = .returned (.bool true) ∧ Below w.heap.size w w' := by
  have H1 := Lib.hid (And.intro h1 h2)
  have HN := Lib.hid hn
  clear h1 h2 hn
  go_enter Try.func25, Try.ntmps25
  go_wp2
  go_loopw [5] (fun i W => ∃ k : Nat, k ≤ n ∧ i = .int .i64 k ∧ Below w.heap.size w W) (fun i _ => n - (intOf i).toNat)
  case atStart => exact ⟨0, Nat.zero_le _, rfl, Below.refl _ _⟩
  case round =>
    obtain ⟨k, hk, rfl, hb⟩ := hrel
    have HB := Lib.hid hb
    by_cases hlt : k < n
    · have hks : k < ls.length := by have := HN.out; omega
      obtain ⟨g2, rfl, hr2⟩ := H1.out.2 (fun e => by rw [e] at hks; simp at hks)
      have x1 := (H1.out.1.below hb).2 k ls[k] (List.getElem?_eq_getElem hks)
      have x2 := (hr2.below hb).2 k ls[k] (List.getElem?_eq_getElem hks)
      rw [encStr] at x1 x2
      generalize (⟨ls[k].toArray⟩ : ByteArray) = s at x1 x2
      clear hb hks hr2
      go_wp2_with fail
      go_quiet (fail)
      go_wp2
      go_roundw
      case rel => exact ⟨k + 1, by omega, by go_num, below_drewN HB.out _⟩
      case measure => simp [intOf]; omega
    · obtain rfl : k = n := by omega
      clear hb
      go_wp2
      go_ret
      exact ⟨rfl, HB.out⟩
section
variable {own : Nat → Prop} {w w' : World} {B : Nat} {r : Rm}
theorem n_names (h : Rn own w B r) {n : Nat} (hn : r.fs.length = n) {ls : List (List UInt8)} (hl : (r.fs.map fun f => nmL f.name) = ls) : Calls Try.prog 46 #[.pointer (some ⟨B, 0, none⟩)] w fun e w' =>
    ∃ A c, e = .returned (.slice A n c) ∧ StrAt w' A ls ∧ Below w.heap.size w w' := by
  obtain ⟨r0, h1, rfl, rfl, rfl⟩ := h
  subst hl
  refine (rnames_any h1).mono fun e w' ⟨A, c, he, ho, hb⟩ => ?_
  have hlen : r0.fs.length = n := by rw [← hn]; exact (List.length_map ..).symm
  subst hlen
  refine ⟨A, c, he, fun hne => ?_, hb⟩
  have hpos : 0 < r0.fs.length := by
    rcases Nat.eq_zero_or_pos r0.fs.length with h0 | h0
    · exact absurd (show (r0.rm.fs.map fun f => nmL f.name) = [] by rw [List.eq_nil_of_length_eq_zero (hn.trans h0)]; rfl) hne
    · exact h0
  rcases ho.2 with ⟨_, h0⟩ | ⟨g, cap, cur, e, _⟩
  · omega
  cases e
  refine ⟨g, rfl, (ho.lt g rfl).2, fun i s hi => ?_⟩
  have hi2 := (List.getElem?_eq_some_iff.1 hi).1
  rw [List.length_map, hn] at hi2
  rw [ho.cellAt i (by omega)]
  unfold nmC
  rw [List.getElem?_map] at hi ⊢
  have e : r0.rm.fs = rvs r0.fs := rfl
  rw [e] at hi
  cases hf : (rvs r0.fs)[i]? with
  | none => rw [hf] at hi; cases hi
  | some f =>
    rw [hf] at hi
    have : s = nmL f.name := by simpa using hi.symm
    subst this
    rw [enc_nm]; rfl
theorem n_used (h : Rn own w B r) {n : Nat} (hn : sizes r.fs = n) : Calls Try.prog 47 #[.pointer (some ⟨B, 0, none⟩)] w fun e w' => e = .returned (.int .i64 (n : Nat)) ∧ w' = w := by
  obtain ⟨r0, h1, rfl, rfl, rfl⟩ := h; subst hn
  exact rused_any h1
theorem n_halted (h : Rn own w B r) {b : Bool} (hb : (r.dead || decide (r.left = 0)) = b) : Calls Try.prog 48 #[.pointer (some ⟨B, 0, none⟩)] w fun e w' => e = .returned (.bool b) ∧ w' = w := by
  obtain ⟨r0, h1, rfl, rfl, rfl⟩ := h; subst hb
  exact rhalted_any h1
theorem Rn.name (h : Rn own w B r) {f : Vw} (hf : f ∈ r.fs) : f.name.size ≤ 30 := by
  obtain ⟨r0, h1, rfl, rfl, rfl⟩ := h
  obtain ⟨x, hx, rfl⟩ := List.mem_map.1 hf
  exact h1.name x hx
end
set_option maxRecDepth 100000 in
set_option maxHeartbeats 4000000 in
theorem same_any {own own2 : Nat → Prop} {w : World} {B B2 : Nat} {m : Md} {r : Rm} (h : Two own own2 w B B2 m r) (hr : Rel m r) : Calls Try.prog 20 #[.pointer (some ⟨B, 0, none⟩), .pointer (some ⟨B2, 0, none⟩)] w fun e w' =>
    e = .returned (.int .i64 1) ∧ Below w.heap.size w w' := by
  obtain ⟨ls, hls⟩ : ∃ ls, ls = nmS m.fs := ⟨_, rfl⟩
  obtain ⟨n, hn⟩ : ∃ n, n = m.fs.length := ⟨_, rfl⟩
  obtain ⟨z, hz⟩ : ∃ z, z = sizes m.fs := ⟨_, rfl⟩
  obtain ⟨b, hb⟩ : ∃ b, b = decide (m.left = 0) := ⟨_, rfl⟩
  have hnl : n = ls.length := by rw [hn, hls, nmS_length]
  have hm64 : n ≤ 64 := by rw [hn]; exact h.l.bounds.2.2
  have HT := Lib.hid (fun W (hb : Below w.heap.size w W) => h.below hb)
  have HD := Lib.hid (And.intro hls.symm (And.intro hn.symm (And.intro hz.symm (And.intro hb.symm (And.intro (hr.len.trans hn.symm) (And.intro (hr.sizes.trans hz.symm) (And.intro ((rel_halted hr).trans hb.symm) ((rel_names hr).symm.trans hls.symm))))))))
  have HNL := Lib.hid (And.intro hnl hm64)
  have HR := Lib.hid hr
  have HB0 := Lib.hid (Below.refl w.heap.size w)
  clear hls hn hz hb hnl h hr
  go_enter Try.func20, Try.ntmps20
  go_wp2_with (first
    | (go_at_call 22; ((with_reducible refine (m_namesS (HT.out _ HB0.out).l HD.out.2.1).mono ?_); rintro e w1 ⟨g1, c1, rfl, hrow, hge, hb1⟩; rw [HD.out.1] at hrow; have R1 := Lib.hid hrow; have HB1 := Lib.hid hb1; clear hrow hge hb1))
    | (go_at_call 46; ((with_reducible refine (n_names (HT.out _ HB1.out).r HD.out.2.2.2.2.1 HD.out.2.2.2.2.2.2.2).mono ?_); rintro e w2 ⟨A2, c2, rfl, hrow, hb2⟩; have R2' := Lib.hid (And.intro (R1.out.below hb2) hrow); have HB2 := Lib.hid (HB1.out.trans (hb2.mono HB1.out.size)); clear hrow hb2))
    | (go_at_call 25; ((with_reducible refine (texts_all R2'.out.1 R2'.out.2 HNL.out.1 (Nat.le_trans HNL.out.2 (by decide))).mono ?_); rintro e w3 ⟨rfl, hb3⟩; have HB3 := Lib.hid (HB2.out.trans (hb3.mono HB2.out.size)); have R3 := Lib.hid (R2'.out.1.below hb3); clear hb3))
    | (go_at_call 16; ((with_reducible refine (l_used (HT.out _ HB3.out).l HD.out.2.2.1).mono ?_); rintro e w4 ⟨rfl, hb4⟩; have HB4 := Lib.hid (HB3.out.trans (hb4.mono HB3.out.size)); have R4 := Lib.hid (R3.out.below hb4); clear hb4))
    | (go_at_call 47; ((with_reducible refine (n_used (HT.out _ HB4.out).r HD.out.2.2.2.2.2.1).mono ?_); rintro e w5 ⟨rfl, rfl⟩))
    | (go_at_call 24; ((with_reducible refine (m_halted (HT.out _ HB4.out).l).mono ?_); rintro e w6 ⟨rfl, rfl⟩; rw [HD.out.2.2.2.1]))
    | (go_at_call 48; ((with_reducible refine (n_halted (HT.out _ HB4.out).r HD.out.2.2.2.2.2.2.1).mono ?_); rintro e w7 ⟨rfl, rfl⟩)))
  go_loopw [6] (fun i W => ∃ k : Nat, k ≤ n ∧ i = .int .i64 k ∧ Below w.heap.size w W ∧ StrRow W g1 ls) (fun i _ => n - (intOf i).toNat)
  case atStart => exact ⟨0, Nat.zero_le _, rfl, HB4.out, R4.out⟩
  case round =>
    obtain ⟨k, hk, rfl, hb, hrow⟩ := hrel
    have HB := Lib.hid (And.intro hb hrow)
    by_cases hlt : k < n
    · have hks : k < ls.length := by have := HNL.out.1; omega
      have hkr : k < r.fs.length := by have := HD.out.2.2.2.2.1; omega
      have hmem := List.getElem_mem hkr
      have hsz := (HT.out _ hb).r.name hmem
      have x1 : wr.cell? ⟨g1, k, none⟩ = some (.string (r.fs[k]).name) := by
        rw [← enc_nm]
        refine hrow.2 k _ ?_
        rw [← HD.out.2.2.2.2.2.2.2, List.getElem?_map, List.getElem?_eq_getElem hkr]; rfl
      generalize (r.fs[k]).name = s at x1 hsz
      obtain ⟨bs, hbs⟩ : ∃ bs, readB m s = bs := ⟨_, rfl⟩
      obtain ⟨cz, hcz⟩ : ∃ cz, readC m s = cz := ⟨_, rfl⟩
      have hrd := rel_read HR.out s
      rw [hbs, hcz] at hrd
      have hz0 : 0 ≤ cz ∧ cz ≤ 200 := by rw [← hcz]; unfold readC; split <;> simp
      have hwz : IntKind.i64.wrap cz = cz := by rw [IntKind.wrap_i64]; omega
      have HRD1 := Lib.hid (m_read (HT.out _ hb).l s (by unfold maxLen; omega) hbs hcz)
      have HRD2 := Lib.hid (fun W (hb : Below w.heap.size w W) => n_read (HT.out _ hb).r s hrd.1.symm hrd.2.symm)
      clear hb hrow hks hkr hmem hsz hbs hcz hrd hz0
      go_wp2_with (first
        | (go_at_call 14; ((with_reducible refine HRD1.out.mono ?_); rintro e w8 ⟨S1, q1, rfl, ho1, hb1⟩; have HB8 := Lib.hid (HB.out.1.trans (hb1.mono HB.out.1.size)); have R8 := Lib.hid (HB.out.2.below hb1); have O8 := Lib.hid (ownB_bytes ho1); have x8 := (hb1.cell (p := ⟨g1, k, none⟩) HB.out.2.1).trans x1; clear ho1 hb1 x1))
        | (go_at_call 41; ((with_reducible refine (HRD2.out _ HB8.out).mono ?_); rintro e w9 ⟨S2, q2, rfl, ho2, hb2⟩; have HB9 := Lib.hid (HB8.out.trans (hb2.mono HB8.out.size)); have R9 := Lib.hid (R8.out.below hb2); have c1 := conv_str (W := w9) (O8.out.keep hb2 (Nat.le_refl _)) q1 bs.length rfl; have c2 := conv_str (W := w9) (ownB_bytes ho2) q2 bs.length rfl; clear ho2 hb2 x8)))
      go_roundw
      case rel => exact ⟨k + 1, by omega, by go_num, HB9.out, R9.out⟩
      case measure => simp [intOf]; omega
    · obtain rfl : k = n := by omega
      clear hb hrow
      go_wp2
      go_ret
      exact ⟨rfl, HB.out.1⟩
end Go.Proofs.Ytkieacidpiffpaa
