/- SeqMoves, the Go function: it comes out true. -/
import Derived.Test.YtlgggalbngpelaaSeqO
namespace Go.Proofs.Ytlgggalbngpelaa
open Go Go.RowKit
set_option linter.unusedVariables false
set_option linter.unusedSimpArgs false

/-- Where what stands at a place behind a move stood. -/
def srcN (a b t : Nat) : Nat := if t = b then a else if t < b then (if t < a then t else t + 1) else (if t - 1 < a then t - 1 else t)
theorem src_lt {a b t m : Nat} (ha : a < m) (hb : b < m) (ht : t < m) : srcN a b t < m := by unfold srcN; split <;> (try split) <;> (try split) <;> omega
theorem src_mono {a b s t : Nat} (hs : s < t) (h1 : s ≠ b) (h2 : t ≠ b) : srcN a b s < srcN a b t := by
  unfold srcN
  rw [if_neg h1, if_neg h2]
  split <;> split <;> split <;> (try split) <;> omega
theorem moved_at {m a b t : Nat} (ha : a < m) (hb : b < m) (ht : t < m) (v : GV) : (doL (numsG m) ⟨7, a, b, v⟩)[t]? = some (numG (1000 + (srcN a b t : Int))) := by
  have hlen := nums_len m
  rw [do_get (c := ⟨7, a, b, v⟩) (.inr (.inr ⟨rfl, by rw [hlen]; exact ha, by rw [hlen]; exact hb⟩))]
  simp only [if_neg (show ¬ (7 : Nat) = 4 by decide), if_neg (show ¬ (7 : Nat) = 5 by decide), if_neg (show ¬ (7 : Nat) = 6 by decide)]
  unfold srcN
  by_cases h1 : t = b
  · simp only [if_pos h1]; exact nums_get _ _ ha
  · simp only [if_neg h1]
    by_cases h2 : t < b
    · simp only [if_pos h2]
      by_cases h3 : t < a
      · simp only [if_pos h3]; exact nums_get _ _ ht
      · simp only [if_neg h3]; exact nums_get _ _ (by omega)
    · simp only [if_neg h2]
      by_cases h3 : t - 1 < a
      · simp only [if_pos h3]; exact nums_get _ _ (by omega)
      · simp only [if_neg h3]; exact nums_get _ _ ht
/-- Between the rounds. -/
def MovesRel (w : World) (m a b : Nat) (last k : Value) (wr : World) : Prop := ∃ (t : Nat) (z : Int), k = .int .i64 t ∧ last = .int .i64 z ∧ t ≤ m ∧ (∀ s, t ≤ s → s < m → s ≠ b → z < 1000 + (srcN a b s : Int)) ∧ ∃ d, wr = w.drewN d
set_option maxRecDepth 100000 in
set_option maxHeartbeats 8000000 in
theorem qmoves_row (n i j : Int) (w : World) (hn : 0 ≤ n ∧ n ≤ 255) (_hi : -9223372036854775808 ≤ i ∧ i ≤ 9223372036854775807) (_hj : -9223372036854775808 ≤ j ∧ j ≤ 9223372036854775807) :
    Calls Try.prog 8 #[.int .u8 n, .int .i64 i, .int .i64 j] w fun e w' => e = .returned (.bool true) ∧ Below w.heap.size w w' := by
  obtain ⟨m, hm, hm1⟩ : ∃ m : Nat, 1 + n % 40 = (m : Int) ∧ 1 ≤ m ∧ m ≤ 40 := ⟨(1 + n % 40).toNat, by omega, by omega⟩
  obtain ⟨a, ha, ha1⟩ := mod_nat i m (by omega)
  obtain ⟨b, hb, hb1⟩ := mod_nat j m (by omega)
  have hlen := nums_len m
  have hlt := nums_light m
  have hok : okC (numsG m).length (⟨7, a, b, flat 0 0⟩ : Cm GV) := .inr (.inr ⟨rfl, by rw [hlen]; exact ha1, by rw [hlen]; exact hb1⟩)
  have hl2 := do_len hok
  simp only [if_neg (show ¬ (7 : Nat) = 4 by decide), if_neg (show ¬ (7 : Nat) = 5 by decide)] at hl2
  rw [hlen] at hl2
  have hw2 := nums_weight _ (do_light (c := ⟨7, a, b, flat 0 0⟩) hlt (by rw [flat_weight]; omega))
  have hdo := fun (W : World) A c (h : ListIn (numsG m) A c W) => do_flat A c (numsG m) 7 a b 0 0 W h hok (by omega) (by omega)
  have HP := Lib.hid (fun t (ht : t < m) => moved_at ha1 hb1 ht (flat 0 0))
  unfold DoOut at hdo
  simp only [hlen, hl2] at hdo
  have HDO := Lib.hid hdo
  have HK := Lib.hid (fun W => qknown_true W)
  have HN := Lib.hid (fun W => numbers_any m W (by omega))
  unfold ListOut at HN
  rw [hlen] at HN
  clear hok hl2 hw2 hdo hlt hlen
  generalize doL (numsG m) ⟨7, a, b, flat 0 0⟩ = lz at *
  go_enter Try.func8, Try.ntmps8
  go_wp2_with (first
    | (go_at_call 11; refine (HK.out _).mono ?_; rintro e w1 ⟨rfl, hb⟩; have B1 := Lib.hid hb; clear hb)
    | (go_at_call 13; refine (HN.out _).mono ?_; rintro e w2 ⟨A, c, rfl, hl, hb⟩; have L2 := Lib.hid (show ListIn (numsG m) A c w2 by unfold ListIn; rw [nums_len]; exact hl); have B2 := Lib.hid (B1.out.trans (hb.mono B1.out.size)); clear hl hb)
    | (go_at_call 15; refine (HDO.out _ _ _ L2.out).mono ?_; rintro e w3 ⟨A3, c3, rfl, hl, hb⟩; have L3 := Lib.hid hl; have M3 := Lib.hid (L2.out.later hb); have B3 := Lib.hid (B2.out.trans (hb.mono B2.out.size)); clear hl hb))
  obtain ⟨b3, o3, rfl, hcp⟩ : ∃ b3 o3, A3 = some ⟨b3, o3, none⟩ ∧ ∀ t, t < m → w3.cell? ⟨b3, o3 + t * 5 + 1, none⟩ = some (.int .i64 (1000 + (srcN a b t : Int))) := by
    obtain ⟨A', c', he, _, _, hf⟩ := L3.out.form
    have hl3 : lz.length = m := by simp only [Value.slice.injEq] at he; exact he.2.1.symm
    simp only [Value.slice.injEq] at he
    obtain ⟨rfl, _, rfl⟩ := he
    obtain ⟨bb, oo, rfl, _, hE⟩ := hf (fun e => by rw [e] at hl3; simp at hl3; omega)
    exact ⟨bb, oo, rfl, fun t ht => num_at hE t _ (HP.out t ht)⟩
  obtain ⟨b2, o2, rfl, hcl⟩ : ∃ b2 o2, A = some ⟨b2, o2, none⟩ ∧ ∀ t, t < m → w3.cell? ⟨b2, o2 + t * 5 + 1, none⟩ = some (.int .i64 (1000 + (t : Int))) := by
    obtain ⟨A', c', he, _, _, hf⟩ := M3.out.form
    simp only [Value.slice.injEq] at he
    obtain ⟨rfl, _, rfl⟩ := he
    obtain ⟨bb, oo, rfl, _, hE⟩ := hf (fun e => by have := nums_len m; rw [e] at this; simp at this; omega)
    exact ⟨bb, oo, rfl, fun t ht => num_at hE t _ (nums_get m t ht)⟩
  have y1 := hcp b hb1
  rw [show srcN a b b = a by simp [srcN]] at y1
  have y2 := hcl a ha1
  have HCP := Lib.hid hcp
  clear hcp hcl HP L3 M3 L2 HDO HN HK
  have hk0 : (0 : Int) ≤ (a : Int) := by omega
  have hk1 : (a : Int) < (m : Int) := by omega
  have hk2 : (0 : Int) ≤ (b : Int) := by omega
  have hk3 : (b : Int) < (m : Int) := by omega
  go_quiet (fail)
  go_wp2
  clear y1 y2
  go_loopw [12, 13] (MovesRel w3 m a b) (fun _ i _ => m - (intOf i).toNat)
  case atStart => exact ⟨0, 0, rfl, rfl, Nat.zero_le _, fun s _ _ _ => by omega, nq, rfl⟩
  case round =>
    obtain ⟨t, z, rfl, rfl, ht, hz, d, rfl⟩ := hrel
    have HZ := Lib.hid hz
    clear hz
    by_cases hlt : t < m
    · have y1 := HCP.out t hlt
      have y2 : (w3.drewN d).cell? ⟨b3, o3 + t * 5 + 1, none⟩ = some (.int .i64 (1000 + (srcN a b t : Int))) := by simpa using y1
      by_cases htb : t = b
      · subst htb
        have h1 : ((t : Int) != (t : Int)) = false := by simp
        go_wp2
        go_roundw
        case rel => exact ⟨t + 1, z, by go_num, rfl, by omega, fun s hs hm hne => HZ.out s (by omega) hm hne, d, rfl⟩
        case measure => simp [intOf]; omega
      · have h1 : ((t : Int) != (b : Int)) = true := by simp; omega
        have h2 := HZ.out t (Nat.le_refl _) hlt htb
        have h3 : decide ((1000 + (srcN a b t : Int)) ≤ z) = false := by simp; omega
        have HT := Lib.hid (And.intro h2 htb)
        clear h2 htb y1
        generalize hs : srcN a b t = st at *
        have HS := Lib.hid hs
        clear hs
        go_wp2
        go_roundw
        case rel => exact ⟨t + 1, 1000 + (st : Int), by go_num, rfl, by omega, fun s hs hm hne => by rw [← HS.out]; have := src_mono (a := a) (b := b) (show t < s by omega) HT.out.2 hne; omega, d, rfl⟩
        case measure => simp [intOf]; omega
    · go_wp2
      go_ret
      exact ⟨rfl, below_drewN B3.out _⟩
end Go.Proofs.Ytlgggalbngpelaa
