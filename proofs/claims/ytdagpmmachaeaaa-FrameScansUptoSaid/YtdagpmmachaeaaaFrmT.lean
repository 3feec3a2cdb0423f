/- Frames: the document's Scan. -/
import Derived.Test.YtdagpmmachaeaaaFrmS
namespace Go.Proofs.Ytdagpmmachaeaaa
open Go Go.RowKit
set_option linter.unusedVariables false
set_option linter.unusedSimpArgs false

theorem infoSl : (Try.prog.info? 22).map (fun i => (i.zero, i.size, i.bytes)) = some (some (.slice none 0 0), 1, 24) := by kernel_rfl
def ScanRel (w : World) (bs : List Int) (v z : Value) (W : World) : Prop := ∃ l e, At bs l e ∧ z = .int .i64 (e : Nat) ∧ Held w.heap.size W v l ∧ Below w.heap.size w W
def ScanOut (bs : List Int) (w : World) (e : Ending) (w' : World) : Prop :=
  ∃ v, e = .returned (.tuple #[v, .int .i64 (scanE bs.length bs : Nat)]) ∧ Held w.heap.size w' v (scanL bs.length bs) ∧ Below w.heap.size w w'
theorem drop_bytes {hi : Nat} {W : World} {A : Option Addr} {bs : List Int} (hA : Bytes hi W A bs) {ca e : Nat} (hca : bs.length ≤ ca) (he : e ≤ bs.length) : Bytes hi W (cutAt A e ca) (bs.drop e) := by
  have := cutAt_bytes hA (l := e) (h := bs.length) he (Nat.le_refl _) hca
  rwa [List.take_length] at this
theorem scanL_len : ∀ (f : Nat) (bs : List Int), (scanL f bs).length ≤ f
  | 0, _ => Nat.le_refl _
  | f + 1, bs => by
    unfold scanL; split
    · have := scanL_len f (bs.drop (8 + numN bs)); simp; omega
    · simp
theorem at_len {bs : List Int} {l : List (List Int)} {e : Nat} (h : At bs l e) (hl : bs.length ≤ 100000) : l.length ≤ 100000 := by
  obtain ⟨_, f, _, h1, _⟩ := h
  have h2 := scanL_len bs.length bs
  rw [← h1, List.length_append] at h2
  omega
theorem src_one (w : World) (v : Value) : ∀ ad, some (⟨w.heap.size, 0, none⟩ : Addr) = some ad → ∀ (j : Nat) (u : Value), [v][j]? = some u → (w.alloc (.cells #[v] 22)).cell? (ad.add j) = some u := by
  intro ad e j u hj
  cases e
  rcases j with _ | j
  · cases hj; exact (Whole.new w 22 #[v]).cell 0
  · simp at hj
theorem one_cell (B : Option Addr) (n d : Nat) : ∀ u ∈ [Value.slice B n d], u.oneCell' = true := fun u hu => by simp at hu; subst hu; rfl
set_option maxHeartbeats 8000000 in
theorem rscan_any (A : Option Addr) (ca n0 : Nat) (bs : List Int) (w : World) (hA : Bytes w.heap.size w A bs) (hs : Short bs) (hca : bs.length ≤ ca) (hl : bs.length ≤ 100000) (hn0 : n0 = bs.length) :
    Calls Try.prog 22 #[.slice A n0 ca] w (ScanOut bs w) := by
  subst hn0
  obtain ⟨i0, hi, hz0, hz1, hz2⟩ := info_parts infoSl
  have HI := Lib.hid (And.intro hi (And.intro hz0 (And.intro hz1 hz2)))
  clear hi hz0 hz1 hz2
  have HA := Lib.hid hA
  have HS := Lib.hid hs
  clear hA hs
  go_enter Try.func22, Try.ntmps22
  go_wp2
  go_loopw [4, 5] (ScanRel w bs) (fun _ z _ => bs.length - (intOf z).toNat)
  case atStart => exact ⟨[], 0, At.start bs, rfl, Held.nil _ _, Below.refl _ _⟩
  case round =>
    obtain ⟨l, e, hat, rfl, hh, hb⟩ := hrel
    obtain ⟨W, rfl⟩ : ∃ W : World, W = wr := ⟨_, rfl⟩
    have hel := hat.le
    have hW := hb.size
    have HAT := Lib.hid hat
    obtain ⟨C, c, rfl⟩ := hh.form
    have HH := Lib.hid hh
    have HB := Lib.hid hb
    have hrun : ∀ W', (Instr.slice 22 (.slice A bs.length ca) (some (.int .i64 (e : Int))) none none).run Try.prog W' = .ok (.slice (cutAt A e ca) (bs.length - e) (ca - e)) W' := run_l A bs.length ca e hel
    have HD := Lib.hid (drop_bytes (HA.out.keep HB.out (Nat.le_refl _)) hca hel)
    have HSD := Lib.hid (short_drop HS.out e)
    clear hat hh hb
    cases hok : okF (bs.drop e) with
    | false =>
      have HO := Lib.hid hok
      have HSTOP := Lib.hid (HAT.out.stop hok)
      clear hok
      go_wp2_with (go_at_call 20; ((with_reducible refine (ropen_no (cutAt A e ca) (ca - e) (bs.length - e) (bs.drop e) W (HD.out.up hW) HSD.out (by rw [List.length_drop]; omega) (by rw [List.length_drop]; omega) (by rw [List.length_drop]) HO.out).mono ?_); rintro e5 w5 ⟨rfl, hb⟩; have HB5 := Lib.hid (HB.out.trans (hb.mono hW)); have HH5 := Lib.hid (HH.out.keep hb); clear hb))
      go_ret2
      exact ⟨.slice C l.length c, (by rw [← HSTOP.out.2]; rfl), by rw [← HSTOP.out.1]; exact HH5.out, HB5.out⟩
    | true =>
      have HO := Lib.hid hok
      have hi8 := okF_is hok
      rw [List.length_drop] at hi8
      obtain ⟨hi8, _, hi9, _⟩ := hi8
      have HNX := Lib.hid (HAT.out.next hok)
      have HLL := Lib.hid (at_len HAT.out hl)
      have HLEN := Lib.hid (heldF_len hok)
      clear hok
      generalize hn : numN (bs.drop e) = n at hi9 HNX HLEN
      have HN := Lib.hid hn
      clear hn
      go_wp2_with (first
        | (go_at_call 20; ((with_reducible refine (ropen_yes (cutAt A e ca) (ca - e) (bs.length - e) (bs.drop e) W (HD.out.up hW) HSD.out (by rw [List.length_drop]; omega) (by rw [List.length_drop]; omega) (by rw [List.length_drop]) HO.out).mono ?_); rintro e5 w5 ⟨B, d, rfl, hn5, hb⟩; rw [HN.out]; have HB5 := Lib.hid (HB.out.trans (hb.mono hW)); obtain ⟨xs, hx5⟩ := HH.out.keep hb; have HX := Lib.hid hx5; clear hx5; have hal := ((Below.refl w5.heap.size w5).alloc (Nat.le_refl _) (.cells #[.slice B n d] 22)); have HX1 := Lib.hid (HX.out.keep hal); have HN1 := Lib.hid ((hn5.lower hW).keep hal (Nat.le_refl _)); have hz5 := HB5.out.size; have HB1 := Lib.hid (HB5.out.alloc hz5 (.cells #[.slice B n d] 22)); clear hal; clear hb hn5))
        | (at_builtin; go_loud (refine wpList_append_from _ rfl (.tmp 21) (.tmp 23) 42 rfl w.heap.size 22 i0 _ 1 24 Try.underlying42 HI.out.1 HI.out.2.1 HI.out.2.2.1 HI.out.2.2.2 rfl (by decide) (.slice C l.length c) l.length xs rfl HX1.out.own (some ⟨w5.heap.size, 0, none⟩) 1 1 [.slice B n d] rfl (fun h => by cases h) rfl (src_one w5 _) (one_cell B n d) (by unfold maxLen; have := HLL.out; omega) (by have := HLL.out; omega) (by simp; omega) ?_; intro v' w6 hown hgrow hat; have HH6 := Lib.hid (HeldR.snoc HX1.out HN1.out HLEN.out.symm hown hgrow); have HB6 := Lib.hid (HB1.out.grown hgrow (by simp; omega) (fun k hk => (HX1.out.own.lt k hk).1)); clear hown hgrow hat)))
      go_roundw
      case rel => exact ⟨_, _, HNX.out, by go_num, HH6.out, HB6.out⟩
      case measure => simp [intOf]; omega
end Go.Proofs.Ytdagpmmachaeaaa
