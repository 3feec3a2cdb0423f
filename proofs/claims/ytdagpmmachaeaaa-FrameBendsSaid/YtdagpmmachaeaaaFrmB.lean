/- Frames: the program's Wrap, the document's. -/
import Derived.Test.YtdagpmmachaeaaaFrmA
namespace Go.Proofs.Ytdagpmmachaeaaa
open Go Go.RowKit
set_option linter.unusedVariables false
set_option linter.unusedSimpArgs false

theorem make_bytes (n : Nat) (hn : n ≤ 1000000) (w : World) : (Instr.makeSlice 22 (.int .i64 0) (.int .i64 (n : Int))).run Try.prog w = .ok (.slice (some ⟨w.heap.size, 0, none⟩) 0 n) (w.alloc (.cells (madeCells #[.int .u8 0] n) 5)) := by
  obtain ⟨i0, hi, hz0, hz1, hz2⟩ := info_parts infoByte
  have := run_make (P := Try.prog) (w := w) 22 5 i0 _ Try.underlying22 hi hz0 .i64 .i64 0 n (by omega) (by omega) (by rw [hz2]; omega) (by omega)
  simp only [hz1, Nat.mul_one] at this
  exact this
theorem own_made (w : World) (n : Nat) (hn : n ≤ 1000000) : OwnB w.heap.size (w.alloc (.cells (madeCells #[.int .u8 0] n) 5)) (.slice (some ⟨w.heap.size, 0, none⟩) 0 n) [] :=
  World.ownsRow_made w _ n (Nat.le_refl _) (by unfold maxLen; omega) (by rw [size_madeCells, Nat.mul_one])
/-- A row that holds something lies in a block of one's own. -/
theorem OwnB.form {base : Nat} {W : World} {v : Value} {bs : List Int} (h : OwnB base W v bs) (hne : bs ≠ []) : ∃ g d, v = .slice (some ⟨g, 0, none⟩) bs.length d ∧ bs.length ≤ d ∧ RowB base W g bs :=
  own_some h rfl hne
theorem grown_below {B : Nat} {a W W' : World} {v : Value} {bs : List Int} (h : Below B a W) (hg : W.grownBy W' v.ownBlock) (ho : OwnB B W v bs) (hB : B ≤ W.heap.size) : Below B a W' :=
  h.grown hg hB fun k hk => (ho.lt k hk).1
def WrapOut (bs : List Int) (r : Value) (w : World) (e : Ending) (w' : World) : Prop :=
  ∃ g d, e = .returned (.tuple #[.slice (some ⟨g, 0, none⟩) (frameB bs).length d, r]) ∧ (frameB bs).length ≤ d ∧ RowB w.heap.size w' g (frameB bs) ∧ Below w.heap.size w w'
theorem wrap_u32 {n : Nat} (h : n < 4294967296) : IntKind.u32.wrap (n : Int) = n := by rw [IntKind.wrap_u32']; omega
theorem short_num4 {n : Nat} (h : n < 4294967296) : Short (num4 n) := ⟨num4_byte h, by simp [num4]⟩
set_option maxHeartbeats 4000000 in
theorem wrap_any (A : Option Addr) (ca : Nat) (bs : List Int) (w : World) (hA : Bytes w.heap.size w A bs) (hs : Short bs) (hl : bs.length ≤ 60000) :
    Calls Try.prog 17 #[.slice A bs.length ca] w (WrapOut bs (.int .u16 0) w) := by
  obtain ⟨i0, hi, hz0, hz1, hz2⟩ := info_parts infoByte
  have HI := Lib.hid (And.intro hi (And.intro hz0 (And.intro hz1 hz2)))
  have HA := Lib.hid hA
  have HS := Lib.hid hs
  have h2 := hs.2
  have hmk : (Instr.makeSlice 22 (.int .i64 0) (.int .i64 (8 + (bs.length : Int)))).run Try.prog w = .ok (.slice (some ⟨w.heap.size, 0, none⟩) 0 (8 + bs.length)) (w.alloc (.cells (madeCells #[.int .u8 0] (8 + bs.length)) 5)) := make_bytes (8 + bs.length) (by omega) w
  have HO := Lib.hid (own_made w (8 + bs.length) (by omega))
  have HB0 := Lib.hid ((Below.refl w.heap.size w).alloc (Nat.le_refl _) (.cells (madeCells #[.int .u8 0] (8 + bs.length)) 5))
  have hw32 := wrap_u32 (n := bs.length) (by omega)
  clear hi hz0 hz1 hz2 hA hs
  go_enter Try.func17, Try.ntmps17
  go_wp2_with (first
    | (go_at_call 27; ((with_reducible refine (lay_any w.heap.size bs.length [] (.slice (some ⟨w.heap.size, 0, none⟩) 0 (8 + bs.length)) _ (by omega) HO.out (by simp) (by simp)).mono ?_); rintro e w1 ⟨v1, rfl, ho, hg⟩; have hb1 := grown_below HB0.out hg HO.out (by simp); rw [List.nil_append] at ho; obtain ⟨g, d, rfl, hd, hr⟩ := ho.form (by simp [num4]); rw [num4_len] at ho ⊢; have HB1 := Lib.hid hb1; have HO1 := Lib.hid ho; have HR1 := Lib.hid hr; have hz1 := hb1.size; have hg1 := hr.base; have hg2 := hr.lt; clear hg ho hb1 hr hd; have HA1 := Lib.hid (HA.out.keep HB1.out (Nat.le_refl _))))
    | (go_at_call 14; go_loud ((with_reducible refine (sum_two (b := w1.heap.size) (n := 4) (m := bs.length) (bs := num4 bs.length) (ds := bs) w1 (HR1.out.bytes.up (ho := w1.heap.size) (by omega)) (HA1.out.up hz1) (Nat.le_refl _) (short_num4 (by omega)) HS.out rfl rfl rfl).mono ?_); rintro e w2 ⟨rfl, rfl⟩))
    | (go_at_call 27; ((with_reducible refine (lay_any w.heap.size (sumN [num4 bs.length, bs]) (num4 bs.length) (.slice (some ⟨g, 0, none⟩) 4 d) _ (sum_lt _) (HO1.out.alloc _) (by simp; omega) (by simp [num4])).mono ?_); rintro e w3 ⟨v3, rfl, ho, hg⟩; have hb3 := grown_below (HB1.out.alloc hz1 _) hg (HO1.out.alloc _) (by simp; omega); obtain ⟨g3, d3, rfl, hd, hr⟩ := ho.form (by simp [num4]); rw [show (num4 bs.length ++ num4 (sumN [num4 bs.length, bs])).length = 8 from rfl] at ho ⊢; have HB3 := Lib.hid hb3; have HO3 := Lib.hid ho; have hz3 := hb3.size; clear hg ho hb3 hr hd; have HA3 := Lib.hid (HA.out.keep HB3.out (Nat.le_refl _))))
    | (at_builtin; refine wpList_append_from _ rfl (.tmp 22) (.tmp 23) 22 rfl w.heap.size 5 i0 _ 1 1 Try.underlying22 HI.out.1 HI.out.2.1 HI.out.2.2.1 HI.out.2.2.2 rfl (by decide) (.slice (some ⟨g3, 0, none⟩) 8 d3) 8 (cellsB (num4 bs.length ++ num4 (sumN [num4 bs.length, bs]))) rfl HO3.out A bs.length ca (cellsB bs) rfl HA3.out.none (by simp [cellsB]) (cellsB_from HA3.out) (cellsB_one bs) (by unfold maxLen; omega) (by omega) (by omega) ?_; intro v' w4 hown hgrow hat; rw [← cellsB_app] at hown; have ho : OwnB w.heap.size w4 v' (frameB bs) := (by unfold OwnB; rw [frameB_len]; exact hown); have hb4 := grown_below HB3.out hgrow HO3.out hz3; obtain ⟨g4, d4, rfl, hd, hr⟩ := ho.form (by simp [frameB, num4]); have HR : Hid (WrapOut bs (.int .u16 0) w (.returned (.tuple #[.slice (some ⟨g4, 0, none⟩) (frameB bs).length d4, .int .u16 0])) w4) := Lib.hid ⟨g4, d4, rfl, hd, hr, hb4⟩; clear hown hgrow hat ho hb4 hd hr))
  go_ret2
  exact HR.out
end Go.Proofs.Ytdagpmmachaeaaa
