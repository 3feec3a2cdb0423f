/- Layer 12: what the statements ask first; FrameWraps. -/
import Derived.Test.YtdagpmmachaeaaaFrmR
namespace Go.Proofs.Ytdagpmmachaeaaa
open Go Go.RowKit
set_option linter.unusedVariables false
set_option linter.unusedSimpArgs false

def YesOut (bs : List Int) (r : Value) (w : World) (e : Ending) (w' : World) : Prop :=
  ∃ B d, e = .returned (.tuple #[.slice B (numN bs) d, .int .i64 (8 + numN bs : Nat), r]) ∧ NewB w.heap.size w' B (heldF bs) ∧ Below w.heap.size w w'
theorem open_yes (A : Option Addr) (ca n0 : Nat) (bs : List Int) (w : World) (hA : Bytes w.heap.size w A bs) (hs : Short bs) (hca : bs.length ≤ ca) (hl : bs.length ≤ 100000) (hn0 : n0 = bs.length) (hok : okF bs = true) :
    Calls Try.prog 19 #[.slice A n0 ca] w (YesOut bs (.int .u16 0) w) :=
  (open_any A ca n0 bs w hA hs hca hl hn0).mono fun e w' h => by
    rcases h with ⟨hb, ⟨_, B, d, rfl, _, hn⟩ | ⟨h, _⟩⟩
    · exact ⟨B, d, rfl, hn, hb⟩
    · rw [hok] at h; cases h
theorem open_no (A : Option Addr) (ca n0 : Nat) (bs : List Int) (w : World) (hA : Bytes w.heap.size w A bs) (hs : Short bs) (hca : bs.length ≤ ca) (hl : bs.length ≤ 100000) (hn0 : n0 = bs.length) (hok : okF bs = false) :
    Calls Try.prog 19 #[.slice A n0 ca] w fun e w' => e = .returned (.tuple #[.slice none 0 0, .int .i64 0, .int .u16 120]) ∧ Below w.heap.size w w' :=
  (open_any A ca n0 bs w hA hs hca hl hn0).mono fun e w' h => by
    rcases h with ⟨hb, ⟨h, _⟩ | ⟨_, rfl⟩⟩
    · rw [hok] at h; cases h
    · exact ⟨rfl, hb⟩
theorem ropen_yes (A : Option Addr) (ca n0 : Nat) (bs : List Int) (w : World) (hA : Bytes w.heap.size w A bs) (hs : Short bs) (hca : bs.length ≤ ca) (hl : bs.length ≤ 100000) (hn0 : n0 = bs.length) (hok : okF bs = true) :
    Calls Try.prog 20 #[.slice A n0 ca] w (YesOut bs (.int .i64 0) w) :=
  (ropen_any A ca n0 bs w hA hs hca hl hn0).mono fun e w' h => by
    rcases h with ⟨hb, ⟨_, B, d, rfl, _, hn⟩ | ⟨h, _⟩⟩
    · exact ⟨B, d, rfl, hn, hb⟩
    · rw [hok] at h; cases h
theorem ropen_no (A : Option Addr) (ca n0 : Nat) (bs : List Int) (w : World) (hA : Bytes w.heap.size w A bs) (hs : Short bs) (hca : bs.length ≤ ca) (hl : bs.length ≤ 100000) (hn0 : n0 = bs.length) (hok : okF bs = false) :
    Calls Try.prog 20 #[.slice A n0 ca] w fun e w' => e = .returned (.tuple #[.slice none 0 0, .int .i64 0, .int .i64 120]) ∧ Below w.heap.size w w' :=
  (ropen_any A ca n0 bs w hA hs hca hl hn0).mono fun e w' h => by
    rcases h with ⟨hb, ⟨h, _⟩ | ⟨_, rfl⟩⟩
    · rw [hok] at h; cases h
    · exact ⟨rfl, hb⟩
/-- A frame begins with a frame; whatever stands behind it. -/
theorem numN_frame {bs : List Int} (hl : bs.length ≤ 60000) (more : List Int) : numN (frameB bs ++ more) = bs.length := by
  unfold frameB; rw [List.append_assoc, List.append_assoc]; exact numN_num4 (by omega) _
theorem take4_frame (bs more : List Int) : (frameB bs ++ more).take 4 = num4 bs.length := by
  unfold frameB; rw [List.append_assoc, List.append_assoc, List.take_left' (num4_len _)]
theorem drop4_frame (bs more : List Int) : (frameB bs ++ more).drop 4 = num4 (sumN [num4 bs.length, bs]) ++ (bs ++ more) := by
  unfold frameB; rw [List.append_assoc, List.append_assoc, List.drop_left' (num4_len _)]
theorem heldF_frame {bs : List Int} (hl : bs.length ≤ 60000) (more : List Int) : heldF (frameB bs ++ more) = bs := by
  unfold heldF
  rw [numN_frame hl]
  have h8 : (num4 bs.length ++ num4 (sumN [num4 bs.length, bs])).length = 8 := rfl
  rw [List.take_left' (frameB_len bs)]
  unfold frameB
  rw [List.drop_left' h8]
theorem okF_frame {bs : List Int} (hl : bs.length ≤ 60000) (more : List Int) : okF (frameB bs ++ more) = true := by
  refine okF_yes ?_ ?_ ?_ ?_
  · simp [frameB_len]; omega
  · rw [numN_frame hl]; exact hl
  · rw [numN_frame hl]; simp [frameB_len]; omega
  · have := heldF_frame hl more
    unfold heldF at this
    rw [this, take4_frame, drop4_frame, numN_num4 (sum_lt _)]
theorem strs_eq (bs : List Int) : ((strOfNums bs).toList == (strOfNums bs).toList) = true := by simp
theorem frame_none_str : strOfNums (frameB []) = ⟨#[0, 0, 0, 0, 33, 68, 223, 28]⟩ := by rw [frame_none]; rfl
theorem short_none : Short (frameB []) := ⟨frameB_byte (fun _ h => by simp at h) (by simp), by rw [frameB_len]; simp⟩
theorem ok_none : okF (frameB []) = true := by have := okF_frame (bs := []) (by simp) []; rwa [List.append_nil] at this
theorem num_none : numN (frameB []) = 0 := by have := numN_frame (bs := []) (by simp) []; rwa [List.append_nil] at this
theorem len_none : 8 = (frameB []).length := rfl
theorem ok_one : okF [1] = false := okF_no (fun h => by simp at h)
theorem byte_one (W : World) (b : Nat) (hb : b = W.heap.size) : Bytes (b + 1) (W.alloc (.cells #[.int .u8 1] 5)) (some ⟨b, 0, none⟩) [1] := byte_new W 1 b hb
theorem wrap_n (A : Option Addr) (ca n0 : Nat) (bs : List Int) (w : World) (hA : Bytes w.heap.size w A bs) (hs : Short bs) (hl : bs.length ≤ 60000) (hn : n0 = bs.length) :
    Calls Try.prog 17 #[.slice A n0 ca] w (WrapOut bs (.int .u16 0) w) := by subst hn; exact wrap_any A ca bs w hA hs hl
theorem rwrap_n (A : Option Addr) (ca n0 : Nat) (bs : List Int) (w : World) (hA : Bytes w.heap.size w A bs) (hs : Short bs) (hl : bs.length ≤ 60000) (hn : n0 = bs.length) :
    Calls Try.prog 18 #[.slice A n0 ca] w (WrapOut bs (.int .i64 0) w) := by subst hn; exact rwrap_any A ca bs w hA hs hl
set_option maxHeartbeats 4000000 in
theorem fknown_true (w : World) : Calls Try.prog 16 #[] w fun e w' => e = .returned (.bool true) ∧ Below w.heap.size w w' := by
  go_enter Try.func16, Try.ntmps16
  go_wp2_with (first
    | (go_at_call 17; ((with_reducible refine (wrap_n none 0 0 [] w (Bytes.nil _ _ _) short_nil (by simp) rfl).mono ?_); rintro e w1 ⟨g, d, rfl, hd, hr, hb⟩; rw [show (frameB []).length = 8 from frameB_len []]; have HB1 := Lib.hid hb; have HR1 := Lib.hid hr; have hz1 := hb.size; have hg2 := hr.lt; have HD := Lib.hid hd; clear hd hr hb))
    | (go_at_call 19; ((with_reducible refine (open_yes (some ⟨g, 0, none⟩) d 8 (frameB []) w1 (HR1.out.bytes.up (by omega)) short_none HD.out (by rw [frameB_len]; simp) len_none ok_none).mono ?_); rintro e w2 ⟨B, d2, rfl, hn, hb⟩; rw [num_none]; have HB2 := Lib.hid (HB1.out.trans (hb.mono hz1)); have hz2 := HB2.out.size; have hcs := conv_str (HR1.out.keep hb hg2).bytes d 8 len_none; rw [frame_none_str] at hcs; have hg3 := hb.size; have HR2 := Lib.hid (HR1.out.keep hb hg2); clear hn hb hcs))
    | (go_at_call 19; ((with_reducible refine (open_no (some ⟨w2.heap.size, 0, none⟩) 1 1 [1] _ ((byte_one w2 _ rfl).up (by simp)) (short_one (by omega)) (by simp) (by simp) rfl ok_one).mono ?_); rintro e w3 ⟨rfl, hb⟩; have HB3 := Lib.hid (HB2.out.trans ((((Below.refl w2.heap.size w2).alloc (Nat.le_refl _) _).trans (hb.mono (by simp))).mono hz2)); have hcs := conv_str (HR2.out.keep (((Below.refl w2.heap.size w2).alloc (Nat.le_refl _) _).trans (hb.mono (by simp))) (by omega)).bytes d 8 len_none; rw [frame_none_str] at hcs; clear hb)))
  go_ret
  exact ⟨rfl, HB3.out⟩
end Go.Proofs.Ytdagpmmachaeaaa
