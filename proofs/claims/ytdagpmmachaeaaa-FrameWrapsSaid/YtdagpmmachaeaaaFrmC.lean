/- Frames: the document's Wrap; what the statements of layer 12 ask of the example's frame. -/
import Derived.Test.YtdagpmmachaeaaaFrmB
namespace Go.Proofs.Ytdagpmmachaeaaa
open Go Go.RowKit
set_option linter.unusedVariables false
set_option linter.unusedSimpArgs false

def FourOut (n : Nat) (w : World) (e : Ending) (w' : World) : Prop := ∃ g, e = .returned (.slice (some ⟨g, 0, none⟩) 4 4) ∧ RowB w.heap.size w' g (num4 n) ∧ Below w.heap.size w w'
set_option maxHeartbeats 1000000 in
theorem four_any (n : Nat) (hn : n < 4294967296) (w : World) : Calls Try.prog 28 #[.int .u32 n] w (FourOut n w) := by
  have HR : Hid (FourOut n w (.returned (.slice (some ⟨w.heap.size, 0, none⟩) 4 4)) (w.alloc (.cells #[.int .u8 ((n : Int) / 16777216), .int .u8 ((n : Int) / 65536 % 256), .int .u8 ((n : Int) / 256 % 256), .int .u8 ((n : Int) % 256)] 5))) :=
    Lib.hid ⟨_, rfl, ⟨Nat.le_refl _, _, Whole.new w 5 _, fun i x hx => by
      match i, hx with
      | 0, h | 1, h | 2, h | 3, h => cases h; rfl
      | i + 4, h => simp [num4] at h⟩, (Below.refl _ _).alloc (Nat.le_refl _) _⟩
  go_enter Try.func28, Try.ntmps28
  go_wp2
  go_ret
  exact HR.out
set_option maxHeartbeats 4000000 in
theorem rwrap_any (A : Option Addr) (ca : Nat) (bs : List Int) (w : World) (hA : Bytes w.heap.size w A bs) (hs : Short bs) (hl : bs.length ≤ 60000) :
    Calls Try.prog 18 #[.slice A bs.length ca] w (WrapOut bs (.int .i64 0) w) := by
  obtain ⟨i0, hi, hz0, hz1, hz2⟩ := info_parts infoByte
  have HI := Lib.hid (And.intro hi (And.intro hz0 (And.intro hz1 hz2)))
  have HA := Lib.hid hA
  have HS := Lib.hid hs
  have h2 := hs.2
  have hw32 := wrap_u32 (n := bs.length) (by omega)
  clear hi hz0 hz1 hz2 hA hs
  go_enter Try.func18, Try.ntmps18
  go_wp2_with (first
    | (go_at_call 28; ((with_reducible refine (four_any bs.length (by omega) w).mono ?_); rintro e w1 ⟨g, rfl, hr, hb⟩; have HB1 := Lib.hid hb; have HR1 := Lib.hid hr; have hz1 := hb.size; have hg1 := hr.base; have hg2 := hr.lt; clear hr hb; have HA1 := Lib.hid (HA.out.keep HB1.out (Nat.le_refl _))))
    | (at_builtin; refine wpList_append_from _ rfl (.tmp 13) (.tmp 14) 22 rfl w1.heap.size 5 i0 _ 1 1 Try.underlying22 HI.out.1 HI.out.2.1 HI.out.2.2.1 HI.out.2.2.2 rfl (by decide) (.slice none 0 0) 0 [] rfl (World.ownsRow_nil _ _ _ _) (some ⟨g, 0, none⟩) 4 4 (cellsB (num4 bs.length)) rfl (fun h => by cases h) rfl (cellsB_from HR1.out.bytes) (cellsB_one _) (by unfold maxLen; omega) (by omega) (Nat.le_refl _) ?_; intro v' w2 hown hgrow hat; rw [List.nil_append] at hown; have ho : OwnB w1.heap.size w2 v' (num4 bs.length) := hown; have hb2 := below_grown hgrow; obtain ⟨g2, d2, rfl, hd, hr⟩ := ho.form (by simp [num4]); rw [num4_len] at ho ⊢; have HB2 := Lib.hid hb2; have HO2 := Lib.hid ho; have hz2 := hb2.size; have HR2 := Lib.hid (HR1.out.keep hb2 hg2); have HA2 := Lib.hid (HA1.out.keep hb2 hz1); clear hown hgrow hat ho hb2 hd hr)
    | (go_at_call 15; ((with_reducible refine (rsum_two (b := w2.heap.size) (n := 4) (m := bs.length) (bs := num4 bs.length) (ds := bs) w2 (HR2.out.bytes.up (ho := w2.heap.size) (by omega)) (HA2.out.up (by omega)) (Nat.le_refl _) (short_num4 (by omega)) HS.out rfl rfl rfl).mono ?_); rintro e w3 ⟨rfl, rfl⟩))
    | (go_at_call 28; ((with_reducible refine (four_any (sumN [num4 bs.length, bs]) (sum_lt _) _).mono ?_); rintro e w4 ⟨g4, rfl, hr, hb⟩; have hb4 := ((Below.refl w2.heap.size w2).alloc (Nat.le_refl _) _).trans (hb.mono (by simp)); have HB4 := Lib.hid hb4; have HR4 := Lib.hid hr; have hz4 := hb4.size; have hg4 := hr.lt; have HO4 := Lib.hid (HO2.out.keep hb4 (fun k hk => (HO2.out.lt k hk).2)); have HA4 := Lib.hid (HA2.out.keep hb4 (by omega)); clear hr hb hb4))
    | (at_builtin; refine wpList_append_from _ rfl (.tmp 16) (.tmp 21) 22 rfl w1.heap.size 5 i0 _ 1 1 Try.underlying22 HI.out.1 HI.out.2.1 HI.out.2.2.1 HI.out.2.2.2 rfl (by decide) (.slice (some ⟨g2, 0, none⟩) 4 d2) 4 (cellsB (num4 bs.length)) rfl HO4.out (some ⟨g4, 0, none⟩) 4 4 (cellsB (num4 (sumN [num4 bs.length, bs]))) rfl (fun h => by cases h) rfl (cellsB_from HR4.out.bytes) (cellsB_one _) (by unfold maxLen; omega) (by omega) (by omega) ?_; intro v' w5 hown hgrow hat; rw [← cellsB_app] at hown; have ho : OwnB w1.heap.size w5 v' (num4 bs.length ++ num4 (sumN [num4 bs.length, bs])) := hown; have hb5 := grown_below (HB2.out.trans (HB4.out.mono hz2)) hgrow HO4.out (by omega); obtain ⟨g5, d5, rfl, hd, hr⟩ := ho.form (by simp [num4]); rw [show (num4 bs.length ++ num4 (sumN [num4 bs.length, bs])).length = 8 from rfl] at ho ⊢; have HB5 := Lib.hid hb5; have HO5 := Lib.hid ho; have hz5 := hb5.size; have HA5 := Lib.hid (HA1.out.keep hb5 hz1); clear hown hgrow hat ho hb5 hd hr)
    | (at_builtin; refine wpList_append_from _ rfl (.tmp 23) (.tmp 24) 22 rfl w1.heap.size 5 i0 _ 1 1 Try.underlying22 HI.out.1 HI.out.2.1 HI.out.2.2.1 HI.out.2.2.2 rfl (by decide) (.slice (some ⟨g5, 0, none⟩) 8 d5) 8 (cellsB (num4 bs.length ++ num4 (sumN [num4 bs.length, bs]))) rfl HO5.out A bs.length ca (cellsB bs) rfl HA5.out.none (by simp [cellsB]) (cellsB_from HA5.out) (cellsB_one bs) (by unfold maxLen; omega) (by omega) (by omega) ?_; intro v' w6 hown hgrow hat; rw [← cellsB_app] at hown; have ho : OwnB w1.heap.size w6 v' (frameB bs) := (by unfold OwnB; rw [frameB_len]; exact hown); have hb6 := HB1.out.trans ((grown_below HB5.out hgrow HO5.out hz5).mono hz1); obtain ⟨g6, d6, rfl, hd, hr⟩ := ho.form (by simp [frameB, num4]); have HR : Hid (WrapOut bs (.int .i64 0) w (.returned (.tuple #[.slice (some ⟨g6, 0, none⟩) (frameB bs).length d6, .int .i64 0])) w6) := Lib.hid ⟨g6, d6, rfl, hd, ⟨Nat.le_trans hz1 hr.base, hr.whole⟩, hb6⟩; clear hown hgrow hat ho hb6 hd hr))
  go_ret2
  exact HR.out
end Go.Proofs.Ytdagpmmachaeaaa
