/- JsonTexts returns true. -/
import Derived.Test.YtmmjkhkcffgeiaaDoorJLawX
namespace Go.Proofs.YtmmjkhkcffgeiaaDoor
open Go Go.RowKit Go.Shelf
set_option linter.unusedVariables false
set_option linter.unusedSimpArgs false

/-- The first k bytes, made ASCII. -/
def textK (s : ByteArray) (k : Nat) : ByteArray := strOfNums ((s.data.toList.take k).map low7)
theorem textK_size (s : ByteArray) (k : Nat) : (textK s k).size ≤ k := by
  unfold textK
  rw [strOfNums_size, List.length_map, List.length_take]
  exact Nat.min_le_left _ _
theorem textK_valid (s : ByteArray) (k : Nat) : valid (textK s k) = true := by
  unfold valid
  have h := Lib.validD_ascii (textK s k).data.toList.length (textK s k).data.toList (fun b hb => by
    rw [List.take_length] at hb
    unfold textK at hb
    rw [strOfNums_data] at hb
    obtain ⟨n, hn, rfl⟩ := List.mem_map.1 hb
    obtain ⟨c, _, rfl⟩ := List.mem_map.1 hn
    unfold low7
    have : ((c.toNat : Int) % 128).toNat < 128 := by omega
    rw [UInt8.toNat_ofNat']
    omega)
  rw [h, List.drop_length]
  rfl
theorem textK_succ (s : ByteArray) (k : Nat) (h : k < s.size) : (textK s (k + 1)).data.toList = (textK s k).data.toList ++ [UInt8.ofNat ((s[k].toNat : Int) % 128).toNat] := by
  unfold textK
  rw [strOfNums_data, strOfNums_data, List.take_succ_eq_append_getElem (by simpa using h), List.map_append, List.map_append]
  rfl
theorem textK_next (s : ByteArray) (k : Nat) (h : k < s.size) (z : Int) (hz : z = (s[k].toNat : Int) % 128) : textK s k ++ strOfNums [z] = textK s (k + 1) := ba_ext (by
  rw [textK_succ s k h, ← hz, ByteArray.data_append, Array.toList_append, strOfNums_data]
  rfl)
theorem encL_snoc (t : List UInt8) (c : UInt8) : (encL (t ++ [c])).length = (encL t).length + (encLetter c).length := by
  unfold encL
  rw [List.flatMap_append, List.length_append]
  simp
def longK (s : ByteArray) (k : Nat) : Nat := 2 + (encL (textK s k).data.toList).length
theorem longK_succ (s : ByteArray) (k : Nat) (h : k < s.size) (z : Int) (hz : z = (s[k].toNat : Int) % 128) : longK s (k + 1) = longK s k + (encLetter (UInt8.ofNat z.toNat)).length := by
  unfold longK
  rw [textK_succ s k h, ← hz, encL_snoc]
  omega
theorem letter_long (z : Int) (h0 : 0 ≤ z) (h1 : z < 128) : (encLetter (UInt8.ofNat z.toNat)).length = if z = 34 ∨ z = 92 then 2 else if z < 32 then 6 else 1 := by
  obtain ⟨n, rfl⟩ := Int.eq_ofNat_of_zero_le h0
  have hn : n < 128 := by omega
  have : ∀ n : Nat, n < 128 → (encLetter (UInt8.ofNat (n : Int).toNat)).length = if (n : Int) = 34 ∨ (n : Int) = 92 then 2 else if (n : Int) < 32 then 6 else 1 := by decide +kernel
  exact this n hn
theorem longK_le (s : ByteArray) (k : Nat) (hk : k ≤ 500) : longK s k ≤ 3002 := by
  unfold longK
  have := encL_six (textK s k).data.toList
  have h2 := textK_size s k
  have h3 : (textK s k).data.toList.length = (textK s k).size := by simp
  omega
def txtG (s : ByteArray) : GV := .mk 3 0 s [] [] []
theorem txtG_enc (s : ByteArray) : (txtG s).enc = encText s.data.toList := by unfold txtG; rw [enc_3]
theorem txtG_j {s : ByteArray} (hs : s.size ≤ 500) (hv : valid s = true) : JV (txtG s) :=
  ⟨rs_leaf3 s, by simp [txtG, GV.Sound, GV.Sounds, SelfP, hv], by unfold txtG; rw [deep_leaf]; omega, by simp [txtG, GV.PosN, GV.PosNs], by unfold txtG; rw [GV.mass, GV.masses]; simp; omega⟩
theorem txtG_val (W : World) (s : ByteArray) : (txtG s).val (fun _ => True) W (.agg #[.int .u8 3, .int .i64 0, .string s, .slice none 0 0, .slice none 0 0]) := ⟨_, _, rfl, .inl ⟨rfl, rfl⟩, rfl, .inl ⟨rfl, rfl⟩⟩
theorem txt_long (s : ByteArray) (k : Nat) : (⟨(txtG (textK s k)).enc.toArray⟩ : ByteArray).size = longK s k := by
  rw [txtG_enc]
  show (encText _).toArray.size = _
  unfold longK encText
  simp
  omega

set_option maxHeartbeats 4000000 in
set_option maxRecDepth 100000 in
theorem jtext_great (s : ByteArray) (w : World) (h : JT w) (hs : 500 < s.size) : Calls Tryd.prog 3 #[.string s] w (TrueOut w) := by
  have h1 : decide ((500 : Int) < (s.size : Int)) = true := by simp; omega
  have HK := Lib.hid (jknown_true w h)
  clear h hs
  go_enter Tryd.func3, Tryd.ntmps3
  go_wp2_with (go_at_call 10; refine HK.out.mono ?_; rintro e w1 ⟨rfl, hb⟩)
  go_ret
  exact ⟨rfl, hb⟩
def TxtRel (w : World) (s : ByteArray) (t l i : Value) (wr : World) : Prop := ∃ k : Nat, i = .int .i64 k ∧ k ≤ s.size ∧ t = .string (textK s k) ∧ l = .int .i64 (longK s k) ∧ Below w.heap.size w wr
theorem conv_one (w : World) (z : Int) : (convert 23 9 (.slice (some ⟨w.heap.size, 0, none⟩) 1 1)).run Tryd.prog (w.alloc (.cells #[.int .u8 z] 5)) = .ok (.string (strOfNums [z])) (w.alloc (.cells #[.int .u8 z] 5)) := by
  refine run_convert_bytes_arg _ _ _ Tryd.underlying23 Tryd.underlying5 w.heap.size 0 1 1 [z] rfl (fun i hi => ?_) _ Tryd.underlying9
  have : i = 0 := by omega
  subst this
  exact ((Whole.new w 5 #[.int .u8 z]).cell 0).trans rfl
set_option maxHeartbeats 8000000 in
set_option maxRecDepth 100000 in
theorem jtext_small (s : ByteArray) (w : World) (h : JT w) (hs : s.size ≤ 500) : Calls Tryd.prog 3 #[.string s] w (TrueOut w) := by
  have h1 : decide ((500 : Int) < (s.size : Int)) = false := by simp; omega
  have HK := Lib.hid (jknown_true w h)
  have HJ := Lib.hid h
  clear h
  go_enter Tryd.func3, Tryd.ntmps3
  go_wp2_with (go_at_call 10; (with_reducible refine HK.out.mono ?_); rintro e w1 ⟨rfl, hb⟩; have H1 := Lib.hid hb; clear hb)
  go_loopw [3, 4, 5] (TxtRel w s) (fun _ _ i _ => s.size - (intOf i).toNat)
  case atStart => exact ⟨0, rfl, Nat.zero_le _, rfl, rfl, H1.out⟩
  case round =>
    obtain ⟨k, rfl, hk, rfl, rfl, hB⟩ := hrel
    have HB := Lib.hid hB
    clear hB
    by_cases hlt : k < s.size
    · have hb0 : 0 ≤ (s[k].toNat : Int) := by omega
      have hb1 : (s[k].toNat : Int) ≤ 255 := by have := s[k].toNat_lt; omega
      obtain ⟨z, hz⟩ : ∃ z : Int, z = (s[k].toNat : Int) % 128 := ⟨_, rfl⟩
      have hz0 : 0 ≤ z := by omega
      have hz1 : z < 128 := by omega
      have HT := Lib.hid (textK_next s k hlt z hz)
      have HL := Lib.hid ((longK_succ s k hlt z hz).trans (by rw [letter_long z hz0 hz1]))
      have HLE := Lib.hid (longK_le s k (by omega))
      have hl0 : (0 : Int) ≤ (longK s k : Int) := by omega
      have hl1 : (longK s k : Int) ≤ 3002 := by have := HLE.out; omega
      have hzz : (s[k].toNat : Int) % 128 = z := hz.symm
      have hconv := conv_one wr z
      have hcat : ¬ 9223372036854775807 < (textK s k).size + (strOfNums [z]).size := by rw [strOfNums_size]; have := textK_size s k; simp; omega
      by_cases q1 : z = 34
      · have HL2 := Lib.hid (show longK s (k + 1) = longK s k + 2 by rw [HL.out]; rw [if_pos (.inl q1)])
        have e1 : (z == 34) = true := by simp; omega
        have e3 : decide (z < 32) = false := by simp; omega
        clear hz hz0 hz1 q1
        go_wp2
        go_roundw
        case rel => exact ⟨k + 1, by go_num, by omega, by rw [← HT.out], by rw [HL2.out]; go_num, HB.out.alloc HB.out.size _⟩
        case measure => simp [intOf]; omega
      by_cases q2 : z = 92
      · have HL2 := Lib.hid (show longK s (k + 1) = longK s k + 2 by rw [HL.out]; rw [if_pos (.inr q2)])
        have e1 : (z == 34) = false := by simp; omega
        have e2 : (z == 92) = true := by simp; omega
        have e3 : decide (z < 32) = false := by simp; omega
        clear hz hz0 hz1 q1 q2
        go_wp2
        go_roundw
        case rel => exact ⟨k + 1, by go_num, by omega, by rw [← HT.out], by rw [HL2.out]; go_num, HB.out.alloc HB.out.size _⟩
        case measure => simp [intOf]; omega
      by_cases q3 : z < 32
      · have HL2 := Lib.hid (show longK s (k + 1) = longK s k + 6 by rw [HL.out]; rw [if_neg (by rintro (h | h); exact q1 h; exact q2 h), if_pos q3])
        have e1 : (z == 34) = false := by simp; omega
        have e2 : (z == 92) = false := by simp; omega
        have e3 : decide (z < 32) = true := by simp; omega
        clear hz hz0 hz1 q1 q2 q3
        go_wp2
        go_roundw
        case rel => exact ⟨k + 1, by go_num, by omega, by rw [← HT.out], by rw [HL2.out]; go_num, HB.out.alloc HB.out.size _⟩
        case measure => simp [intOf]; omega
      · have HL2 := Lib.hid (show longK s (k + 1) = longK s k + 1 by rw [HL.out]; rw [if_neg (by rintro (h | h); exact q1 h; exact q2 h), if_neg q3])
        have e1 : (z == 34) = false := by simp; omega
        have e2 : (z == 92) = false := by simp; omega
        have e3 : decide (z < 32) = false := by simp; omega
        clear hz hz0 hz1 q1 q2 q3
        go_wp2
        go_roundw
        case rel => exact ⟨k + 1, by go_num, by omega, by rw [← HT.out], by rw [HL2.out]; go_num, HB.out.alloc HB.out.size _⟩
        case measure => simp [intOf]; omega
    · have hk' : k = s.size := by omega
      have HJT := Lib.hid (txtG_j (Nat.le_trans (textK_size s k) (by omega)) (textK_valid s k))
      have HLG := Lib.hid (txt_long s k)
      have hl0 : (0 : Int) ≤ (longK s k : Int) := by omega
      generalize hT : textK s k = T at *
      generalize hLn : longK s k = L at *
      clear hT hLn
      have hlen : (((txtG T).enc.length : Int) == (L : Int)) = true := by
        have h2 : (txtG T).enc.toArray.size = L := HLG.out
        rw [List.size_toArray] at h2
        simp [h2]
      go_wp2_with (first
        | (go_at_call 11; (with_reducible refine (enc_is (fun _ => True) _ (txtG T) _ (HJ.out.below HB.out) (txtG_val _ T) HJT.out.posN HJT.out.snd HJT.out.fits).mono ?_); rintro e w2 ⟨rfl, hb⟩; have H2 := Lib.hid (below_next HB.out hb); clear hb)
        | (go_at_call 12; (with_reducible refine (dec_is _ (txtG T) _ (HJ.out.below H2.out) HJT.out.small HJT.out.is).mono ?_); rintro e w3 ⟨BL, dL, BO, dO, rfl, hL, hO, hb⟩; have H3 := Lib.hid (below_next H2.out hb); clear hb hL hO))
      go_ret
      exact ⟨rfl, below_new H3.out _⟩
theorem jtext_row (hi : Nat) (s : ByteArray) (w : World) (_ : hi ≤ w.heap.size) (_ : s.size ≤ 140737488351232) (h : JT w) : Calls Tryd.prog 3 #[.string s] w (TrueOut w) := by
  by_cases hs : s.size ≤ 500
  · exact jtext_small s w h hs
  · exact jtext_great s w h (by omega)
end Go.Proofs.YtmmjkhkcffgeiaaDoor
