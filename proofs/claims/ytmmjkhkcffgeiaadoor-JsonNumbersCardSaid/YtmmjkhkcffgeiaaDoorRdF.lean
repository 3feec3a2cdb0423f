/- json's reader: the letters of a text. -/
import Derived.Test.YtmmjkhkcffgeiaaDoorRdE
namespace Go.Proofs.YtmmjkhkcffgeiaaDoor
open Go Go.RowKit Go.Shelf

theorem Rd.past {R B : Nat} {W w w' : World} (h : Rd R W w) (hb : Below B w w') (hB : W.heap.size ≤ B) : Rd R W w' :=
  ⟨hb.os.trans h.os, hb.tape.trans h.tape, hb.output.trans h.output, Nat.le_trans h.size hb.size, fun k hk hn => (hb.block k (by omega)).trans (h.far k hk hn)⟩
abbrev SB (B : Nat) (l : List UInt8) (w : World) : Prop := Lib.IsBuilder 48 5 B B (Lib.byteCells l) w
theorem sb_rd {R B : Nat} {l : List UInt8} {w w' : World} (h : SB B l w) (hr : Rd R w w') (hR : R < B) : SB B l w' := by
  have key : ∀ p, Lib.BuilderAt 48 5 B B p (Lib.byteCells l) w → Lib.BuilderAt 48 5 B B p (Lib.byteCells l) w' := fun p h => by
    obtain ⟨h1, v, h2, h3, h4⟩ := id h
    exact ⟨h1, v, (hr.far B h.lt (by omega)).trans h2, own_same h3 fun k hk => hr.far k (h3.lt k hk).2 (by have := (h3.lt k hk).1; omega), h4⟩
  exact h.imp (key _) (key _)
theorem sb_lt {B : Nat} {l : List UInt8} {w : World} (h : SB B l w) : B < w.heap.size := by
  rcases h with h | h
  · exact h.lt
  · exact h.lt
theorem At.past {W W' : World} {R : Nat} {s : ByteArray} {i d B : Nat} (h : At W R s i d) (hb : Below B W W') (hR : R < B) : At W' R s i d := ⟨h.whole.below hb hR, h.le, h.max⟩
/-- How letters ends. -/
def LetOut (R : Nat) (s : ByteArray) (i d : Nat) (W : World) (e : Ending) (w' : World) : Prop :=
  (∃ (t : List UInt8) (j : Nat), rest s i = encL t ++ 34 :: rest s j ∧ e = .returned (.string ⟨t.toArray⟩) ∧ At w' R s j d ∧ Rd R W w') ∨ ((¬ ∃ t r, Txt (rest s i) t r) ∧ Bad R W e w')
def QuoOut (R : Nat) (s : ByteArray) (i d : Nat) (W : World) (e : Ending) (w' : World) : Prop :=
  (∃ (t : List UInt8) (j : Nat), rest s i = encText t ++ rest s j ∧ e = .returned (.string ⟨t.toArray⟩) ∧ At w' R s j d ∧ Rd R W w') ∨ ((¬ ∃ t r, rest s i = encText t ++ r) ∧ Bad R W e w')
/-- Between two letters. -/
def LetRel (R B : Nat) (s : ByteArray) (i d : Nat) (W : World) (wr : World) : Prop :=
  ∃ (t : List UInt8) (j : Nat), At wr R s j d ∧ rest s i = encL t ++ rest s j ∧ SB B t wr ∧ Rd R W wr
def posOf (R : Nat) (w : World) : Nat := match w.cell? ⟨R, 1, none⟩ with | some (.int _ z) => z.toNat | _ => 0
theorem At.pos {W : World} {R : Nat} {s : ByteArray} {i d : Nat} (h : At W R s i d) : posOf R W = i := by unfold posOf; rw [h.cells.2.1]; simp
theorem letRel_len {s : ByteArray} {i j : Nat} {t : List UInt8} (h : rest s i = encL t ++ rest s j) (hm : s.size ≤ 60000) : t.length ≤ 60000 := by
  have h1 := congrArg List.length h
  rw [rest_length, List.length_append, rest_length] at h1
  have h2 : t.length ≤ (encL t).length := by
    induction t with
    | nil => simp
    | cons c t ih =>
      rw [encL_cons, List.length_append, List.length_cons]
      have hc : 1 ≤ (encLetter c).length := by unfold encLetter; split <;> (try split) <;> simp
      have : (∀ t : List UInt8, t.length ≤ (encL t).length) := fun t => by
        induction t with
        | nil => simp
        | cons c t ih =>
          rw [encL_cons, List.length_append, List.length_cons]
          have hc : 1 ≤ (encLetter c).length := by unfold encLetter; split <;> (try split) <;> simp
          omega
      have := this t
      omega
  omega

set_option maxHeartbeats 8000000 in
set_option maxRecDepth 100000 in
theorem r_letters (R : Nat) (s : ByteArray) (i d : Nat) (W : World) (h : At W R s i d) (r0 : List UInt8) (hq : rest s i = 34 :: r0) :
    Calls Tryd.prog 80 #[.pointer (some ⟨R, 0, none⟩)] W (LetOut R s (i + 1) d W) := by
  have hm := h.max
  have HC := Lib.hid (c_word_ok R s ⟨#[34]⟩ i d W h r0 hq)
  have hlt := h.lt
  clear h hq
  go_enter Tryd.func80, Tryd.ntmps80
  go_wp2_with (go_at_call 77; refine HC.out.mono ?_; rintro e W1 ⟨rfl, hA, hR⟩; have H1 := Lib.hid (And.intro (show At W1 R s (i + 1) d from hA) hR); clear hA hR)
  obtain ⟨B, hB⟩ : ∃ B, B = W1.heap.size := ⟨_, rfl⟩
  have hst : LetRel R B s (i + 1) d W (W1.alloc (.cells #[.pointer none, .slice none 0 0] 48)) := by
    subst hB
    exact ⟨[], i + 1, H1.out.1.later ((Below.refl _ _).alloc (Nat.le_refl _) _), rfl, Lib.fresh_isBuilder _ _ _, H1.out.2.trans (Rd.alloc _ _ _)⟩
  have HB := Lib.hid (show R < B ∧ W.heap.size ≤ B by have := H1.out.1.lt; have := H1.out.2.size; omega)
  have HST := Lib.hid hst
  rw [← hB]
  clear hst hB
  go_loopw [] (LetRel R B s (i + 1) d W) (fun w => s.size - posOf R w)
  case atStart => exact HST.out
  case round =>
    clear HST H1
    obtain ⟨t, j, hA, ht, hS, hR⟩ := hrel
    have hp := hA.pos
    have HT := Lib.hid (And.intro ht (And.intro hS (And.intro hR hp)))
    have hlen := letRel_len ht hm
    have hle := hA.le
    have HA := Lib.hid hA
    by_cases hj : j < s.size
    · have HN := Lib.hid (c_next_ok R s j d wr hA hj)
      have HRC := Lib.hid (rest_cons hj)
      clear hA ht hS hR hp
      generalize s[j] = c at *
      by_cases hc : c = 34
      · subst hc
        have HX := Lib.hid (fun W2 (hr : Rd R wr W2) => Tryd.Builder_String_any B B t W2 (sb_rd HT.out.2.1 hr HB.out.1) (by have := sb_lt (sb_rd HT.out.2.1 hr HB.out.1); omega))
        go_wp2_with (first
          | (go_at_call 89; refine HN.out.mono ?_; rintro e W2 ⟨rfl, hA2, hR2⟩; have H2 := Lib.hid (And.intro hA2 hR2); clear hA2 hR2)
          | (go_at_call 22; refine (HX.out _ H2.out.2).mono ?_; rintro e W3 ⟨rfl, hb3⟩; have H3 := Lib.hid hb3; clear hb3))
        go_ret
        exact .inl ⟨t, j + 1, by rw [HT.out.1, HRC.out], rfl, H2.out.1.past H3.out HB.out.1, (HT.out.2.2.1.trans H2.out.2).past H3.out HB.out.2⟩
      · have n1 : ((c.toNat : Int) == 34) = false := by
          have : c.toNat ≠ 34 := fun e => hc (UInt8.toNat_inj.1 e)
          simp; omega
        by_cases hc2 : c = 92
        · subst hc2
          have HE := Lib.hid (fun W2 (hA2 : At W2 R s (j + 1) d) => r_escaped R s (j + 1) d W2 hA2)
          have HX := Lib.hid (fun (c' : UInt8) W2 (hS2 : SB B t W2) => Tryd.Builder_WriteByte B B (Lib.byteCells t) c'.toNat W2 hS2 (by rw [Lib.byteCells_length]; omega) (by have := sb_lt hS2; omega))
          go_wp2_with (first
            | (go_at_call 89; refine HN.out.mono ?_; rintro e W2 ⟨rfl, hA2, hR2⟩; have H2 := Lib.hid (And.intro hA2 hR2); clear hA2 hR2)
            | (go_at_call 90; refine (HE.out _ H2.out.1).mono ?_; rintro e W3 (⟨c', n, he, rfl, hA3, hR3⟩ | ⟨he, v, rfl, hv, hR3⟩); all_goals (have H3 := Lib.hid hR3; have HEN := Lib.hid he; clear hR3 he))
            | (go_at_call 53; have HA3 := Lib.hid hA3; clear hA3; refine (HX.out _ _ (sb_rd HT.out.2.1 (H2.out.2.trans H3.out) HB.out.1)).mono ?_; rintro e W4 ⟨rfl, hS4, hb4⟩; have H4 := Lib.hid (And.intro hS4 hb4); clear hS4 hb4))
          · go_roundw
            case rel =>
              have hee := esc_enc HEN.out
              refine ⟨t ++ [c'], j + 1 + n, HA3.out.past H4.out.2 HB.out.1, ?_, .inr ?_, (HT.out.2.2.1.trans (H2.out.2.trans H3.out)).past H4.out.2 HB.out.2⟩
              · rw [HT.out.1, HRC.out, encL_append, List.append_assoc]
                congr 1
                have : encL [c'] = encLetter c' := by simp [encL]
                rw [this, hee.2, ← rest_drop s (j + 1) n, List.cons_append, List.take_append_drop]
              · have := H4.out.1
                rwa [show Lib.byteCells t ++ [Value.int .u8 c'.toNat] = Lib.byteCells (t ++ [c']) by simp [Lib.byteCells]] at this
            case measure =>
              rw [(HA3.out.past H4.out.2 HB.out.1).pos, HT.out.2.2.2]
              have := HA3.out.le
              omega
          · exact panic_post rfl (.inr ⟨by rw [HT.out.1, HRC.out]; exact txt_after (txt_none_esc HEN.out), _, rfl, hv, (HT.out.2.2.1.trans (H2.out.2.trans H3.out))⟩)
        · have n2 : ((c.toNat : Int) == 92) = false := by
            have : c.toNat ≠ 92 := fun e => hc2 (UInt8.toNat_inj.1 e)
            simp; omega
          by_cases hlo : c.toNat < 32
          · have hd : decide (32 ≤ (c.toNat : Int)) = false := by simp; omega
            have HLO := Lib.hid (And.intro hc (And.intro hc2 hlo))
            clear hc hc2 hlo
            go_wp2_with (first
              | (go_at_call 89; refine HN.out.mono ?_; rintro e W2 ⟨rfl, hA2, hR2⟩; have H2 := Lib.hid (And.intro hA2 hR2); clear hA2 hR2)
              | (go_at_call 24; refine (need_bad _ _).mono ?_; rintro e W3 ⟨rfl, rfl⟩))
            exact panic_post rfl (.inr ⟨by rw [HT.out.1, HRC.out]; exact txt_after (txt_none_low HLO.out.1 HLO.out.2.1 HLO.out.2.2), _, rfl, .inl rfl, HT.out.2.2.1.trans H2.out.2⟩)
          · have hd : decide (32 ≤ (c.toNat : Int)) = true := by simp; omega
            have HX := Lib.hid (fun W2 (hS2 : SB B t W2) => Tryd.Builder_WriteByte B B (Lib.byteCells t) c.toNat W2 hS2 (by rw [Lib.byteCells_length]; omega) (by have := sb_lt hS2; omega))
            have HLO := Lib.hid (enc_plain hc hc2 hlo)
            clear hc hc2 hlo
            go_wp2_with (first
              | (go_at_call 89; refine HN.out.mono ?_; rintro e W2 ⟨rfl, hA2, hR2⟩; have H2 := Lib.hid (And.intro hA2 hR2); clear hA2 hR2)
              | (go_at_call 24; refine (need_ok _ _).mono ?_; rintro e W3 ⟨rfl, rfl⟩)
              | (go_at_call 53; refine (HX.out _ (sb_rd HT.out.2.1 H2.out.2 HB.out.1)).mono ?_; rintro e W4 ⟨rfl, hS4, hb4⟩; have H4 := Lib.hid (And.intro hS4 hb4); clear hS4 hb4))
            go_roundw
            case rel =>
              refine ⟨t ++ [c], j + 1, H2.out.1.past H4.out.2 HB.out.1, ?_, .inr ?_, (HT.out.2.2.1.trans H2.out.2).past H4.out.2 HB.out.2⟩
              · rw [HT.out.1, HRC.out, encL_append, List.append_assoc]
                congr 1
                have : encL [c] = encLetter c := by simp [encL]
                rw [this, HLO.out]
                rfl
              · have := H4.out.1
                rwa [show Lib.byteCells t ++ [Value.int .u8 c.toNat] = Lib.byteCells (t ++ [c]) by simp [Lib.byteCells]] at this
            case measure =>
              rw [(H2.out.1.past H4.out.2 HB.out.1).pos, HT.out.2.2.2]
              omega
    · have hje : j = s.size := by omega
      subst hje
      have HN := Lib.hid (c_next_bad R s d wr hA)
      clear hA ht hS hR hp
      go_wp2_with (go_at_call 89; refine HN.out.mono ?_; rintro e W2 ⟨v, rfl, hv, hR2⟩; have H2 := Lib.hid (And.intro hv hR2); clear hv hR2)
      exact panic_post rfl (.inr ⟨by rw [HT.out.1, rest_end]; exact txt_after txt_none_nil, _, rfl, H2.out.1, HT.out.2.2.1.trans H2.out.2⟩)
end Go.Proofs.YtmmjkhkcffgeiaaDoor
