/- json's reader: what stands between two brackets, whatever is read there. -/
import Derived.Test.YtmmjkhkcffgeiaaDoorJRow
import Derived.Test.YtmmjkhkcffgeiaaDoorRdG
import Derived.Shelf.Abstract
namespace Go.Proofs.YtmmjkhkcffgeiaaDoor
open Go Go.RowKit Go.Shelf

/-- How the reading of one item ends. -/
def OneOut {α : Type} (I : Itm α) (R : Nat) (s : ByteArray) (Inv : List α → World → Prop) (W0 : World) (l : List α) (j d : Nat) (e : Ending) (w' : World) : Prop :=
  (∃ (x : α) (k : Nat), I.At (rest s j) x (rest s k) ∧ e = .returned (.tuple #[]) ∧ Inv (l ++ [x]) w' ∧ At w' R s k d) ∨ ((¬ ∃ x r, I.At (rest s j) x r) ∧ Bad R W0 e w')
/-- No row stands there. -/
def NoRow {α : Type} (I : Itm α) (m : Nat) (b : List UInt8) : Prop := (m = 0 ∧ ∀ t, b ≠ I.shut :: t) ∨ (m ≠ 0 ∧ ¬ ∃ l r, I.Row b l r)
def RowOut {α : Type} (I : Itm α) (m R : Nat) (s : ByteArray) (Inv : List α → World → Prop) (W0 : World) (b : List UInt8) (d : Nat) (e : Ending) (w' : World) : Prop :=
  (∃ (l : List α) (k : Nat), (l = [] ∨ m ≠ 0) ∧ I.Row b l (rest s k) ∧ e = .returned (.tuple #[]) ∧ Inv l w' ∧ At w' R s k d) ∨ (NoRow I m b ∧ Bad R W0 e w')
def RowRel {α : Type} (I : Itm α) (R : Nat) (s : ByteArray) (Inv : List α → World → Prop) (b : List UInt8) (d : Nat) (wr : World) : Prop :=
  ∃ (acc : List α) (x : α) (j : Nat), (∀ y ∈ acc, I.good y) ∧ I.good x ∧ I.fol x (rest s j) ∧ b = I.row true (acc ++ [x]) ++ rest s j ∧ Inv (acc ++ [x]) wr ∧ At wr R s j d
theorem no_pre1 {l : List UInt8} {c : UInt8} (h : Lib.hasPrefix l [c] = false) : ∀ t, l ≠ c :: t := fun t e => by
  rw [e] at h
  simp [Lib.hasPrefix] at h

theorem row_short {α : Type} {I : Itm α} {l : List α} {s : ByteArray} {r0 t : List UInt8} {i : Nat} (hr : r0 = rest s (i + 1)) (hi : i + [(0 : UInt8)].length ≤ s.size) (h : r0 = I.row true l ++ t) : l.length ≤ s.size := by
  have h1 := I.row_len true l
  have h2 := congrArg List.length (hr.symm.trans h)
  rw [rest_length, List.length_append] at h2
  simp at h1 hi
  omega
set_option maxHeartbeats 8000000 in
set_option maxRecDepth 100000 in
theorem r_row {α : Type} (I : Itm α) (oc : UInt8) (G : Nat) (lb : Array Value) (eg : ∀ args w, (callFunc G args).run Tryd.prog w = .ok (.enter G args) w) (Inv : List α → World → Prop) (m R : Nat) (s : ByteArray) (i d : Nat) (W0 W : World)
    (h : At W R s i d) (hd : d + m = 16) (r0 : List UInt8) (hq : rest s i = oc :: r0) (hI0 : Inv [] W) (hIR : ∀ l W1 W2, Inv l W1 → Rd R W1 W2 → Inv l W2) (hIW : ∀ l W1, Inv l W1 → Rd R W0 W1)
    (hone : m ≠ 0 → ∀ l W1 j, l.length ≤ s.size → Inv l W1 → At W1 R s j (d + 1) → Calls Tryd.prog G lb W1 (OneOut I R s Inv W0 l j (d + 1))) :
    Calls Tryd.prog 81 #[.pointer (some ⟨R, 0, none⟩), .string ⟨#[oc]⟩, .string ⟨#[I.shut]⟩, .func (.func G) #[] lb] W (RowOut I m R s Inv W0 r0 d) := by
  have hr1 : r0 = rest s (i + 1) := (rest_next (p := [oc]) hq).symm
  have HC := Lib.hid (c_word_ok R s ⟨#[oc]⟩ i d W h r0 hq)
  have HI := Lib.hid (And.intro hI0 (And.intro hIR hIW))
  have HO := Lib.hid hone
  have HM := Lib.hid hr1
  have hm := h.max
  have HL := Lib.hid (rest_len (p := [oc]) hq h.le)
  clear h hq hI0 hIR hIW hone hr1
  cases hp : Lib.hasPrefix (rest s (i + 1)) [I.shut] with
  | true =>
    obtain ⟨r1, hr⟩ := pre_split hp
    have hn := rest_next (p := [I.shut]) hr
    have HS := Lib.hid (fun W1 (h1 : At W1 R s (i + 1) d) => c_skips_yes R s ⟨#[I.shut]⟩ (i + 1) d W1 h1 r1 hr)
    have HR := Lib.hid (And.intro hr hn)
    clear hr hn hp
    go_enter Tryd.func81, Tryd.ntmps81
    go_wp2_with (first
      | (go_at_call 77; refine HC.out.mono ?_; rintro e W1 ⟨rfl, hA, hR⟩; have H1 := Lib.hid (And.intro (show At W1 R s (i + 1) d from hA) hR); clear hA hR)
      | (go_at_call 78; refine (HS.out _ H1.out.1).mono ?_; rintro e W2 ⟨rfl, hA, hR⟩; have H2 := Lib.hid (And.intro (show At W2 R s (i + 1 + 1) d from hA) hR); clear hA hR))
    first
      | go_end0
      | refine bodyPost_ret (results_none rfl _ _ _) rfl ?_
    refine .inl ⟨[], i + 1 + 1, .inl rfl, ⟨(fun x h => by cases h), ?_⟩, rfl, HI.out.2.1 _ _ _ HI.out.1 (H1.out.2.trans H2.out.2), H2.out.1⟩
    rw [HM.out, HR.out.1, ← HR.out.2]
    rfl
  | false =>
    have hns := no_pre1 hp
    have HS := Lib.hid (fun W1 (h1 : At W1 R s (i + 1) d) => c_skips_no R s ⟨#[I.shut]⟩ (i + 1) d W1 h1 hp)
    have HNS := Lib.hid hns
    clear hns hp
    by_cases hm0 : m = 0
    · have hd1 : decide ((d : Int) < 16) = false := by simp; omega
      have HM0 := Lib.hid hm0
      clear hm0
      go_enter Tryd.func81, Tryd.ntmps81
      go_wp2_with (first
        | (go_at_call 77; refine HC.out.mono ?_; rintro e W1 ⟨rfl, hA, hR⟩; have H1 := Lib.hid (And.intro (show At W1 R s (i + 1) d from hA) hR); clear hA hR)
        | (go_at_call 78; refine (HS.out _ H1.out.1).mono ?_; rintro e W2 ⟨rfl, hA, hR⟩; obtain ⟨c0, c1, c2, f0, f1, f2⟩ := hA.cells; have H2 := Lib.hid (And.intro hA hR); clear hA hR)
        | (go_at_call 24; refine (need_bad _ _).mono ?_; rintro e W3 ⟨rfl, rfl⟩))
      exact panic_post rfl (.inr ⟨.inl ⟨HM0.out, by rw [HM.out]; exact HNS.out⟩, _, rfl, .inl rfl, (HI.out.2.2 _ _ (HI.out.2.1 _ _ _ HI.out.1 (H1.out.2.trans H2.out.2)))⟩)
    · have hd1 : decide ((d : Int) < 16) = true := by simp; omega
      have hw := IntWalk.i64_in ((d : Int) + 1) (by omega)
      have HM0 := Lib.hid hm0
      clear hm0
      go_enter Tryd.func81, Tryd.ntmps81
      go_wp2_with (first
        | (go_at_call 77; refine HC.out.mono ?_; rintro e W1 ⟨rfl, hA, hR⟩; have H1 := Lib.hid (And.intro (show At W1 R s (i + 1) d from hA) hR); clear hA hR)
        | (go_at_call 78; refine (HS.out _ H1.out.1).mono ?_; rintro e W2 ⟨rfl, hA, hR⟩; obtain ⟨c0, c1, c2, f0, f1, f2⟩ := hA.cells; have H2 := Lib.hid (And.intro hA hR); clear hA hR)
        | (go_at_call 24; refine (need_ok _ _).mono ?_; rintro e W3 ⟨rfl, rfl⟩)
        | (go_at_fn G; refine (HO.out HM0.out [] _ (i + 1) (Nat.zero_le _) (HI.out.2.1 _ _ _ HI.out.1 ((H1.out.2.trans H2.out.2).trans (Rd.set _ _ _ _))) (by have := H2.out.1.deep (d + 1); rwa [Int.natCast_add] at this)).mono ?_; rintro e W4 (⟨x, k, hx, rfl, hI4, hA4⟩ | ⟨hn, v, rfl, hv, hR⟩)))
      rotate_left
      · exact panic_post rfl (.inr ⟨.inr ⟨HM0.out, I.none_first (by rw [HM.out]; exact HNS.out) (by rw [HM.out]; exact hn)⟩, _, rfl, hv, hR⟩)
      have hst : RowRel I R s Inv r0 (d + 1) W4 := ⟨[], x, k, (fun y h => by cases h), hx.1, hx.2.2, by rw [HM.out, hx.2.1]; simp [Itm.row], hI4, hA4⟩
      have HST := Lib.hid hst
      clear hst hx hI4 hA4 c0 c1 c2 f0 f1 f2 HS H1 H2 HC
      go_loopw [] (RowRel I R s Inv r0 (d + 1)) (fun w => s.size - posOf R w)
      case atStart => exact HST.out
      case round =>
        clear HST
        obtain ⟨acc, x, j, hacc, hx, hf, hb, hIv, hA⟩ := hrel
        have hpos := Lib.hid hA.pos
        have HB := Lib.hid (And.intro hacc (And.intro hx (And.intro hf (And.intro hb (And.intro hIv hA)))))
        clear hacc hx hf hb hIv hA
        cases hp2 : Lib.hasPrefix (rest s j) [I.shut] with
        | true =>
          obtain ⟨r1, hr⟩ := pre_split hp2
          have hn := rest_next (p := [I.shut]) hr
          have HS2 := Lib.hid (c_skips_yes R s ⟨#[I.shut]⟩ j (d + 1) wr HB.out.2.2.2.2.2 r1 hr)
          have HR2 := Lib.hid (And.intro hr hn)
          have hw2 := IntWalk.i64_in ((d : Int) + 1 - 1) (by omega)
          clear hr hn hp2
          go_wp2_with (go_at_call 78; refine HS2.out.mono ?_; rintro e W5 ⟨rfl, hA, hR⟩; obtain ⟨c0, c1, c2, f0, f1, f2⟩ := hA.cells; have H5 := Lib.hid (And.intro (show At W5 R s (j + 1) (d + 1) from hA) hR); clear hA hR)
          first
            | go_end0
            | refine bodyPost_ret (results_none rfl _ _ _) rfl ?_
          refine .inl ⟨acc ++ [x], j + 1, .inr HM0.out, ⟨?_, ?_⟩, rfl, HI.out.2.1 _ _ _ HB.out.2.2.2.2.1 (H5.out.2.trans (Rd.set _ _ _ _)), ?_⟩
          · intro z hz
            rcases List.mem_append.1 hz with hz | hz
            · exact HB.out.1 z hz
            · rw [List.mem_singleton.1 hz]; exact HB.out.2.1
          · rw [HB.out.2.2.2.1, HR2.out.1, ← HR2.out.2]
            rfl
          · have h6 := H5.out.1.deep d
            first
              | exact h6
              | (have e : ((d : Int) + 1 - 1) = d := by omega
                 rw [← e] at h6; exact h6)
        | false =>
          have hns2 := no_pre1 hp2
          have HS2 := Lib.hid (c_skips_no R s ⟨#[I.shut]⟩ j (d + 1) wr HB.out.2.2.2.2.2 hp2)
          have HNS2 := Lib.hid hns2
          clear hns2 hp2
          cases hp3 : Lib.hasPrefix (rest s j) [44] with
          | false =>
            have HNC := Lib.hid (no_pre1 hp3)
            have HW2 := Lib.hid (fun W1 (h1 : At W1 R s j (d + 1)) => c_word_bad R s ⟨#[44]⟩ j (d + 1) W1 h1 hp3)
            clear hp3
            go_wp2_with (first
              | (go_at_call 78; refine HS2.out.mono ?_; rintro e W5 ⟨rfl, hA, hR⟩; have H5 := Lib.hid (And.intro hA hR); clear hA hR)
              | (go_at_call 77; refine (HW2.out _ H5.out.1).mono ?_; rintro e W6 ⟨v, rfl, hv, hR⟩; have H6 := Lib.hid (And.intro hv hR); clear hv hR))
            exact panic_post rfl (.inr ⟨.inr ⟨HM0.out, I.none_next HB.out.1 HB.out.2.1 HB.out.2.2.1 HB.out.2.2.2.1 HNS2.out HNC.out⟩, _, rfl, H6.out.1, (HI.out.2.2 _ _ HB.out.2.2.2.2.1).trans (H5.out.2.trans H6.out.2)⟩)
          | true =>
            obtain ⟨r1, hr⟩ := pre_split hp3
            have hn := rest_next (p := [44]) hr
            have HW2 := Lib.hid (fun W1 (h1 : At W1 R s j (d + 1)) => c_word_ok R s ⟨#[44]⟩ j (d + 1) W1 h1 r1 hr)
            have HR2 := Lib.hid (And.intro hr hn)
            clear hr hn hp3
            go_wp2_with (first
              | (go_at_call 78; refine HS2.out.mono ?_; rintro e W5 ⟨rfl, hA, hR⟩; have H5 := Lib.hid (And.intro hA hR); clear hA hR)
              | (go_at_call 77; refine (HW2.out _ H5.out.1).mono ?_; rintro e W6 ⟨rfl, hA, hR⟩; have H6 := Lib.hid (And.intro (show At W6 R s (j + 1) (d + 1) from hA) hR); clear hA hR)
              | (go_at_fn G; refine (HO.out HM0.out (acc ++ [x]) _ (j + 1) (row_short HM.out HL.out HB.out.2.2.2.1) (HI.out.2.1 _ _ _ HB.out.2.2.2.2.1 (H5.out.2.trans H6.out.2)) H6.out.1).mono ?_; rintro e W7 (⟨y, k, hy, rfl, hI7, hA7⟩ | ⟨hn, v, rfl, hv, hR⟩)))
            rotate_left
            · exact panic_post rfl (.inr ⟨.inr ⟨HM0.out, I.none_item (t := rest s (j + 1)) HB.out.1 HB.out.2.1 (by have := HB.out.2.2.1; rwa [HR2.out.1, ← HR2.out.2] at this) (by rw [HB.out.2.2.2.1, HR2.out.1, ← HR2.out.2]; rfl) hn⟩, _, rfl, hv, hR⟩)
            go_roundw
            case rel =>
              refine ⟨acc ++ [x], y, k, ?_, hy.1, hy.2.2, ?_, hI7, hA7⟩
              · intro z hz
                rcases List.mem_append.1 hz with hz | hz
                · exact HB.out.1 z hz
                · rw [List.mem_singleton.1 hz]; exact HB.out.2.1
              · rw [HB.out.2.2.2.1, HR2.out.1, ← HR2.out.2]
                show I.row true (acc ++ [x]) ++ (44 :: rest s (j + 1)) = _
                rw [hy.2.1, I.row_snoc true (acc ++ [x]) y]
                simp
            case measure =>
              rw [hA7.pos, hpos.out]
              have h1 := congrArg List.length hy.2.1
              rw [rest_length, List.length_append, rest_length] at h1
              have h2 := hA7.le
              have h3 := H6.out.1.le
              omega
end Go.Proofs.YtmmjkhkcffgeiaaDoor
