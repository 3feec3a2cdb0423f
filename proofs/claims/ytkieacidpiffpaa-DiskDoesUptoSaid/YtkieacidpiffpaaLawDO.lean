/- DiskOwn, the Go function: it comes out true. -/
import Derived.Test.YtkieacidpiffpaaDskN
import Derived.Laws.BytesArg
import Derived.Laws.BytesString
namespace Go.Proofs.Ytkieacidpiffpaa
open Go Go.RowKit Go.Shelf
set_option linter.unusedVariables false
set_option linter.unusedSimpArgs false

/-- Bytes, as a text. -/
theorem conv_str {hi : Nat} {W : World} {A : Option Addr} {bs : List Int} (h : Bytes hi W A bs) (c n : Nat) (hn : n = bs.length) :
    (convert 22 9 (.slice A n c)).run Try.prog W = .ok (.string (strOfNums bs)) W := by
  subst hn
  cases bs with
  | nil =>
    show (convert 22 9 (.slice A 0 c)).run Try.prog W = _
    rw [run_convert_bytes_string W 22 9 5 _ 0 c Try.underlying22 Try.underlying5 Try.underlying9]
    cases A <;> (simp [Conv.bytesToString, loadCells]; rfl)
  | cons x r =>
    obtain ⟨b, o, rfl, _, hc⟩ := h (by simp)
    refine run_convert_bytes_arg W _ _ Try.underlying22 Try.underlying5 b o _ c _ rfl (fun i hi => ?_) _ Try.underlying9
    rw [hc i _ (List.getElem?_eq_getElem hi), List.getD_eq_getElem?_getD, List.getElem?_eq_getElem hi]; rfl
/-- Two disks that know nothing of one another. -/
structure Ow (w : World) (own1 own2 : Nat → Prop) (B1 B2 : Nat) (m1 m2 : Md) (W : World) : Prop where
  un : Un w own1 W
  un2 : ∀ i, own2 i → w.heap.size ≤ i
  l1 : Lk own1 W B1 m1
  l2 : Lk own2 W B2 m2
  dj : ∀ i, own2 i → ¬ own1 i
section
variable {w W W' : World} {own1 own2 own' : Nat → Prop} {B1 B2 : Nat} {m1 m2 m' : Md}
theorem Ow.next (h : Ow w own1 own2 B1 B2 m1 m2 W) (hl : Lk own' W' B1 m') (k : Nx own1 W W' own') : Ow w own' own2 B1 B2 m' m2 W' :=
  ⟨h.un.next k, h.un2, hl, h.l2.keep fun i hi => k.1.block i (h.l2.lt hi) (h.dj i hi), fun i hi h2 => by
    rcases k.2 i h2 with h3 | h3
    · exact h.dj i hi h3
    · have := h.l2.lt hi; omega⟩
theorem Ow.then (h : Ow w own1 own2 B1 B2 m1 m2 W) (k : Below W.heap.size W W') : Ow w own1 own2 B1 B2 m1 m2 W' := ⟨h.un.then k, h.un2, h.l1.below k, h.l2.below k, h.dj⟩
theorem Ow.put (h : Ow w own1 own2 B1 B2 m1 m2 W) {g : Nat} (hg : w.heap.size ≤ g) (h1 : ¬ own1 g) (h2 : ¬ own2 g) (k : Nat) (u : Value) : Ow w own1 own2 B1 B2 m1 m2 (W.setCell ⟨g, k, none⟩ u) :=
  ⟨⟨h.un.below.setCell hg u, h.un.own⟩, h.un2, h.l1.keep fun i hi => Below.heap_setCell _ _ _ _ fun e => h1 (show own1 g from (show i = g from e) ▸ hi), h.l2.keep fun i hi => Below.heap_setCell _ _ _ _ fun e => h2 (show own2 g from (show i = g from e) ▸ hi), h.dj⟩
end
abbrev sX : ByteArray := ⟨#[120]⟩
abbrev mX (bs : List Int) : Md := ⟨5000, false, -1, [⟨sX, bs, 0⟩]⟩
theorem mX_app {bs : List Int} (h : bs.length ≤ 5000) : (⟨5000, false, -1, []⟩ : Md).append sX bs = (mX bs, 0) := by
  show Md.app ⟨5000, false, -1, []⟩ sX bs = _
  unfold Md.app
  rw [if_neg (by show ¬ (false = true ∨ 5000 < sizes [] + bs.length); rw [sizes_nil]; simp; omega)]
  rfl
theorem readB_X (bs : List Int) : readB (mX bs) sX = bs := rfl
theorem readC_X (bs : List Int) : readC (mX bs) sX = 0 := rfl
/-- A row of one's own, that a loop writes over. -/
def Scr (w : World) (own1 own2 : Nat → Prop) (B : Option Addr) (n : Nat) (W : World) : Prop := n ≠ 0 → ∃ g cs, B = some ⟨g, 0, none⟩ ∧ cs.length = n ∧ RowB w.heap.size W g cs ∧ ¬ own1 g ∧ ¬ own2 g
theorem Scr.of {w w2 w3 w4 : World} {own1 own2 own3 : Nat → Prop} {B1 B2 n c : Nat} {m1 m2 : Md} {C : Option Addr} {bs : List Int} (h : Ow w own1 own2 B1 B2 m1 m2 w2) (ho : OwnB w2.heap.size w3 (.slice C n c) bs) (hn : n = bs.length) (k : Nx own1 w3 w4 own3) : Scr w own3 own2 C n w4 := fun hne => by
  obtain ⟨g, d, e, _, hr⟩ := own_some ho rfl (by intro e; subst e; exact hne (hn.trans rfl))
  cases e
  have h1 : ¬ own1 g := fun h2 => by have := h.l1.lt h2; have := hr.base; omega
  have hlt := hr.lt
  refine ⟨g, bs, rfl, hn.symm, ?_, fun h2 => ?_, fun h2 => by have := h.l2.lt h2; have := hr.base; omega⟩
  · obtain ⟨hb, cur, hw, hc⟩ := hr
    exact ⟨Nat.le_trans h.un.below.size hb, cur, hw.of_eq (k.1.block g hlt h1), hc⟩
  · rcases k.2 g h2 with h3 | h3
    · exact h1 h3
    · omega
theorem Nx.refl (own : Nat → Prop) (w : World) : Nx own w w own := ⟨Kp.refl _ _, fun i hi => .inl hi⟩
theorem Scr.put {w W : World} {own1 own2 : Nat → Prop} {g n : Nat} {cs : List Int} (hn : cs.length = n) (hr : RowB w.heap.size W g cs) (h1 : ¬ own1 g) (h2 : ¬ own2 g) (k : Nat) (x : Int) : Scr w own1 own2 (some ⟨g, 0, none⟩) n (W.setCell ⟨g, k, none⟩ (.int .u8 x)) :=
  fun _ => ⟨g, cs.set k x, rfl, by simpa using hn, hr.put x, h1, h2⟩
def LoopR (w : World) (own1 own2 : Nat → Prop) (B1 B2 : Nat) (m1 m2 : Md) (B : Option Addr) (n : Nat) (i : Value) (W : World) : Prop :=
  ∃ k : Nat, k ≤ n ∧ i = .int .i64 k ∧ Ow w own1 own2 B1 B2 m1 m2 W ∧ Scr w own1 own2 B n W
set_option maxRecDepth 100000 in
set_option maxHeartbeats 4000000 in
theorem down_true (A : Option Addr) (ca : Nat) (bs : List Int) (w : World) (hA : Bytes w.heap.size w A bs) (hs : Short bs) :
    Calls Try.prog 8 #[.slice A bs.length ca] w fun e w' => e = .returned (.bool true) ∧ Below w.heap.size w w' := by
  have HA := Lib.hid hA
  have HS := Lib.hid (show Byte bs ∧ bs.length ≤ 9223372036854775807 from hs)
  have hl9 := hs.2
  clear hA hs
  by_cases hs1 : bs.length ≤ 1000
  · obtain ⟨i0, hi, hz0, hz1, hz2⟩ := info_parts infoByte
    have HI := Lib.hid (And.intro hi (And.intro hz0 (And.intro hz1 hz2)))
    clear hi hz0 hz1 hz2
    have hE := mX_app (bs := bs) (by omega)
    have HE := Lib.hid (And.intro hE (And.intro (readB_X bs) (readC_X bs)))
    have HX := Lib.hid (show sX.size ≤ 30 by decide)
    clear hE
    go_enter Try.func8, Try.ntmps8
    go_wp2_with (first
      | (go_at_call 9; refine (known_true _).mono ?_; rintro e w0 ⟨rfl, hb⟩; have HB0 := Lib.hid hb; have HN1 := Lib.hid (l_new w0 5000 (by omega) 5000 rfl); clear hb)
      | (go_at_call 10; ((with_reducible refine HN1.out.mono ?_); rintro e w1 ⟨own1, B1, rfl, hL, ho, hb⟩; have U1 := Lib.hid (Un.mk (HB0.out.trans (hb.mono HB0.out.size)) (fun i hi => Nat.le_trans HB0.out.size (ho i hi))); have L1 := Lib.hid hL; have HN2 := Lib.hid (l_new w1 5000 (by omega) 5000 rfl); clear hL ho hb))
      | (go_at_call 10; ((with_reducible refine HN2.out.mono ?_); rintro e w2 ⟨own2, B2, rfl, hL, ho, hb⟩; have O2 := Lib.hid (show Ow w own1 own2 B1 B2 ⟨5000, false, -1, []⟩ ⟨5000, false, -1, []⟩ w2 from ⟨U1.out.then hb, fun i hi => Nat.le_trans U1.out.below.size (ho i hi), L1.out.below hb, hL, fun i hi h2 => by have := L1.out.lt h2; have := ho i hi; omega⟩); have HA2 := Lib.hid (HA.out.keep O2.out.un.below (Nat.le_refl _)); have hz2 := O2.out.un.below.size; clear hL ho hb))
      | (at_builtin; refine wpList_append_from _ rfl (.tmp 30) (.tmp 31) 22 rfl w2.heap.size 5 i0 _ 1 1 Try.underlying22 HI.out.1 HI.out.2.1 HI.out.2.2.1 HI.out.2.2.2 rfl (by decide) (.slice none 0 0) 0 [] rfl (World.ownsRow_nil _ _ _ _) A bs.length ca (cellsB bs) rfl HA2.out.none (by simp [cellsB]) (cellsB_from HA2.out) (cellsB_one bs) (by unfold maxLen; omega) (by omega) (Nat.le_refl _) ?_; intro v' w3 hown hgrow hat; rw [Nat.zero_add, List.nil_append] at hown; obtain ⟨C, cc, rfl⟩ := own_shape hown; have hb3 : Below w2.heap.size w2 w3 := ⟨hgrow.os, hgrow.tape, hgrow.output, hgrow.size, fun i hi => hgrow.block i hi (by simp [Value.ownBlock])⟩; have O3 := Lib.hid (O2.out.then hb3); have S3 := Lib.hid (Src.fresh O2.out.l1 hown); have R3 := Lib.hid hown; have B3 := Lib.hid hb3; clear hown hgrow hat hb3)
      | (go_at_call 11; ((with_reducible refine (l_append O3.out.l1 C cc bs.length sX bs S3.out HX.out HS.out.1 HS.out.2 rfl HE.out.1).mono ?_); rintro e w4 ⟨rfl, own3, hL, hN⟩; have O4 := Lib.hid (O3.out.next hL hN); have R4 := Lib.hid (Scr.of O2.out R3.out rfl hN); clear hL hN)))
    go_loopw [6] (fun i W => LoopR w own3 own2 B1 B2 (mX bs) ⟨5000, false, -1, []⟩ C bs.length i W) (fun i _ => bs.length - (intOf i).toNat)
    case atStart => exact ⟨0, Nat.zero_le _, rfl, O4.out, R4.out⟩
    case round =>
      obtain ⟨k, hk, rfl, ho, hsc⟩ := hrel
      by_cases hlt : k < bs.length
      · obtain ⟨g, cs, rfl, hn, hr, h1, h2⟩ := hsc (by omega)
        have hx := List.getElem?_eq_getElem (l := cs) (i := k) (by omega)
        obtain ⟨p0, p1⟩ := hr.cell hx
        generalize cs[k] = x at p0
        have HR := Lib.hid (And.intro ho (And.intro hn (And.intro hr (And.intro h1 h2))))
        clear ho hsc hn hr h1 h2 hx
        go_wp2
        go_roundw
        case rel => exact ⟨k + 1, by omega, by go_num, HR.out.1.put HR.out.2.2.1.base HR.out.2.2.2.1 HR.out.2.2.2.2 k _, Scr.put HR.out.2.1 HR.out.2.2.1 HR.out.2.2.2.1 HR.out.2.2.2.2 k _⟩
        case measure => simp [intOf]; omega
      · obtain rfl : k = bs.length := by omega
        have O5 := Lib.hid ho
        have HN5 := Lib.hid (l_read ho.l1 sX HX.out HE.out.2.1 HE.out.2.2)
        clear ho hsc hlt hk
        go_wp2_with (first
          | (go_at_call 14; ((with_reducible refine HN5.out.mono ?_); rintro e w6 ⟨X, xc, rfl, hown, hb⟩; have O6 := Lib.hid (O5.out.then hb); have R6 := Lib.hid (Scr.of O5.out hown rfl (Nx.refl own3 w6)); clear hown hb)))
        go_loopw [9] (fun i W => LoopR w own3 own2 B1 B2 (mX bs) ⟨5000, false, -1, []⟩ X bs.length i W) (fun i _ => bs.length - (intOf i).toNat)
        case atStart => exact ⟨0, Nat.zero_le _, rfl, O6.out, R6.out⟩
        case round =>
          obtain ⟨k, hk, rfl, ho, hsc⟩ := hrel
          by_cases hlt : k < bs.length
          · obtain ⟨g, cs, rfl, hn, hr, h1, h2⟩ := hsc (by omega)
            have hx := List.getElem?_eq_getElem (l := cs) (i := k) (by omega)
            obtain ⟨p0, p1⟩ := hr.cell hx
            generalize cs[k] = x at p0
            have HR := Lib.hid (And.intro ho (And.intro hn (And.intro hr (And.intro h1 h2))))
            clear ho hsc hn hr h1 h2 hx
            go_wp2
            go_roundw
            case rel => exact ⟨k + 1, by omega, by go_num, HR.out.1.put HR.out.2.2.1.base HR.out.2.2.2.1 HR.out.2.2.2.2 k _, Scr.put HR.out.2.1 HR.out.2.2.1 HR.out.2.2.2.1 HR.out.2.2.2.2 k _⟩
            case measure => simp [intOf]; omega
          · obtain rfl : k = bs.length := by omega
            have O7 := Lib.hid ho
            have HN7 := Lib.hid (l_read ho.l1 sX HX.out HE.out.2.1 HE.out.2.2)
            clear ho hsc hlt hk
            go_wp2_with (first
              | (go_at_call 14; ((with_reducible refine HN7.out.mono ?_); rintro e w8 ⟨Y, yc, rfl, hown, hb⟩; have O8 := Lib.hid (O7.out.then hb); have Y8 := Lib.hid (Src.fresh O7.out.l1 hown); have HN8 := Lib.hid (l_read O8.out.l2 sX HX.out (bs := []) (c := 131) rfl rfl); clear hown hb))
              | (go_at_call 14; ((with_reducible refine HN8.out.mono ?_); rintro e w9 ⟨Z, zc, rfl, hown, hb⟩; have O9 := Lib.hid (O8.out.then hb); have hcy := conv_str (Y8.out.below hb).bytes yc bs.length rfl; have hcb := conv_str (HA.out.keep O9.out.un.below (Nat.le_refl _)) ca bs.length rfl; clear hown hb)))
            go_ret
            exact ⟨rfl, O9.out.un.below⟩
  · go_enter Try.func8, Try.ntmps8
    go_wp2_with (go_at_call 9; refine (known_true _).mono ?_; rintro e w0 ⟨rfl, hb⟩; have HB0 := Lib.hid hb; clear hb)
    go_ret
    exact ⟨rfl, HB0.out⟩
end Go.Proofs.Ytkieacidpiffpaa
