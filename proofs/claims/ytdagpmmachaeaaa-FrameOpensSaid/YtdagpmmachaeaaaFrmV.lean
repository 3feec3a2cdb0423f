/- Frames: the program's frames, as a function that is ranged over: what it owes. -/
import Derived.Test.YtdagpmmachaeaaaFrmU
import Derived.Test.YtdagpmmachaeaaaRangeLaw
import Derived.RangeFuncBox
import Derived.Deep.RegionLaw
import Derived.BigRegion
import Derived.Shelf.Abstract
import Derived.Shelf.RegionOpen
import Derived.OwnWalkIn
import Derived.TacticsInMore
import Derived.LoopNIn
import Derived.LoopIn
import Derived.Sort.LoopGhostIn
import Derived.Lib.Hide
import Derived.IntWalk
namespace Go.Proofs.Ytdagpmmachaeaaa
open Go Go.RowKit Go.Shelf
set_option linter.unusedVariables false
set_option linter.unusedSimpArgs false

theorem Whole.apart {W : World} {b l : Nat} {t : TypeId} {cs : Array Value} {o : Obj} (h : Whole W b t cs) (hl : W.heap[l]? = some o) (ho : o.isCells = false) (o' : Obj) : Whole (W.putObj l o') b t cs := by
  refine h.of_eq (World.putObj_heap_other ?_)
  rintro rfl
  rw [show W.heap[b]? = _ from h] at hl
  cases hl
  cases ho
theorem below_apart {n0 l : Nat} {w0 W : World} (h : Below n0 w0 W) (hl : n0 ≤ l) {o : Obj} (hk : W.heap[l]? = some o) (o' : Obj) : Below n0 w0 (W.putObj l o') :=
  h.trans ((Below.refl n0 W).grown (grownBy_putObj' W l o') (by have := (Array.getElem?_eq_some_iff.1 hk).1; omega) (fun k e => by cases e; omega))
theorem NewB.apart {base : Nat} {W : World} {B : Option Addr} {bs : List Int} {l : Nat} {o : Obj} (h : NewB base W B bs) (hl : W.heap[l]? = some o) (ho : o.isCells = false) (o' : Obj) : NewB base (W.putObj l o') B bs :=
  h.imp id fun ⟨g, e, hb, cur, hw, hc⟩ => ⟨g, e, hb, cur, hw.apart hl ho o', hc⟩
theorem Held.apart {base : Nat} {W : World} {v : Value} {ls : List (List Int)} {l : Nat} {o : Obj} (h : Held base W v ls) (hl : W.heap[l]? = some o) (ho : o.isCells = false) (o' : Obj) : Held base (W.putObj l o') v ls := by
  obtain ⟨xs, hw, he⟩ := h
  refine ⟨xs, ⟨hw.1, hw.2.imp id ?_⟩, fun i bs hi => ?_⟩
  · rintro ⟨g, cap, cur, rfl, hg, hwh, r⟩
    exact ⟨g, cap, cur, rfl, hg, (show Whole W g 22 cur from hwh).apart hl ho o', r⟩
  · obtain ⟨B, d, e, hn⟩ := he i bs hi
    exact ⟨B, d, e, hn.apart hl ho o'⟩
/-- What holds between the rounds. -/
structure SI (w : World) (A : Option Addr) (n ca : Nat) (ls : List (List Int)) (e : Nat) (W : World) : Prop where
  below : Below w.heap.size w W
  row : ∃ v, Whole W w.heap.size 42 #[v] ∧ Held (w.heap.size + 3) W v ls
  last : Whole W (w.heap.size + 1) 3 #[.int .i64 (e : Nat)]
  box : Whole W (w.heap.size + 2) 22 #[.slice A n ca]
theorem SI.keep {w : World} {A : Option Addr} {n ca : Nat} {ls : List (List Int)} {e : Nat} {W W' : World} (h : SI w A n ca ls e W) (hb : Below W.heap.size W W') : SI w A n ca ls e W' := by
  obtain ⟨h1, ⟨v, h2, h3⟩, h4, h5⟩ := h
  exact ⟨h1.trans (hb.mono h1.size), ⟨v, h2.below hb h2.lt, h3.keep hb⟩, h4.below hb h4.lt, h5.below hb h5.lt⟩
theorem SI.apart {w : World} {A : Option Addr} {n ca : Nat} {ls : List (List Int)} {e : Nat} {B : Nat} (hB : w.heap.size ≤ B) : Apart B (SI w A n ca ls e) := by
  rintro W l o o' hl hk ho ho' ⟨h1, ⟨v, h2, h3⟩, h4, h5⟩
  exact ⟨below_apart h1 (by omega) hk o', ⟨v, h2.apart hk ho o', h3.apart hk ho o'⟩, h4.apart hk ho o', h5.apart hk ho o'⟩
/-- What comes in a round: what was held ahead of it, and where; where its bytes lie. -/
structure It where
  ls : List (List Int)
  e : Nat
  B : Option Addr
  d : Nat
abbrev It.encs (bs : List Int) (x : It) : Array Value := #[.slice x.B (numN (bs.drop x.e)) x.d, .int .i64 (x.e + (8 + numN (bs.drop x.e)) : Nat)]
def It.Pre (w : World) (A : Option Addr) (ca : Nat) (bs : List Int) (x : It) (W : World) : Prop :=
  SI w A bs.length ca x.ls x.e W ∧ At bs x.ls x.e ∧ okF (bs.drop x.e) = true ∧ NewB (w.heap.size + 3) W x.B (heldF (bs.drop x.e))
def It.Post (w : World) (A : Option Addr) (ca : Nat) (bs : List Int) (x : It) (W : World) : Prop :=
  SI w A bs.length ca (x.ls ++ [heldF (bs.drop x.e)]) (x.e + (8 + numN (bs.drop x.e))) W
theorem keeps_below {B : Nat} {W W' : World} (h : Below W.heap.size W W') : KeepsFrom B W W' :=
  ⟨h.size, fun k o _ hk _ => (h.block k (Array.getElem?_eq_some_iff.1 hk).1).trans hk⟩
def ItRel (w : World) (A : Option Addr) (ca : Nat) (bs : List Int) (B : Nat) (W0 : World) (m : Nat) (z : Value) (W : World) : Prop :=
  ∃ ls e, bs.length - e = m ∧ z = .int .i64 (e : Nat) ∧ At bs ls e ∧ SI w A bs.length ca ls e W ∧ KeepsFrom B W0 W
set_option maxRecDepth 100000 in
set_option maxHeartbeats 8000000 in
theorem frames_dues (n : Nat) (hn : 1 ≤ n) (B : Nat) (w : World) (A : Option Addr) (ca : Nat) (bs : List Int) (W0 : World) (l : Nat) (hA : Bytes w.heap.size w A bs) (hs : Short bs) (hca : bs.length ≤ ca) (hl : bs.length ≤ 100000) (h0 : SI w A bs.length ca [] 0 W0) :
    Dues Fence.wide n Try.prog 33 #[.pointer (some ⟨w.heap.size + 2, 0, none⟩)] (It.encs bs) B (It.Pre w A ca bs) (It.Post w A ca bs) (SI w A bs.length ca (scanL bs.length bs) (scanE bs.length bs)) l W0 := by
  intro Jx hY
  have HA := Lib.hid hA
  have HS := Lib.hid hs
  clear hA hs
  refine callsIn_of_wp Try.func33 rfl trivial ?_ rfl
  simp only [Try.ntmps33, List.size_toArray, List.length_cons, List.length_nil, Nat.reduceAdd, Nat.reduceSub, Array.replicate_succ, Array.replicate_zero, List.push_toArray, List.append_toArray, List.nil_append, List.cons_append]
  gi_wp2
  gi_loopg [3] (bs.length) (ItRel w A ca bs B W0)
  case atStart => exact ⟨[], 0, rfl, rfl, At.start bs, h0, KeepsFrom.refl _ _⟩
  case round =>
    obtain ⟨ls, e, hm, rfl, hat, hsi, hk⟩ := hrel
    obtain ⟨W, rfl⟩ : ∃ W : World, W = wr := ⟨_, rfl⟩
    have hel := hat.le
    have hW := hsi.below.size
    have hbx := hsi.box.cell 0
    have hrun : ∀ W', (Instr.slice 22 (.slice A bs.length ca) (some (.int .i64 (e : Int))) none none).run Try.prog W' = .ok (.slice (cutAt A e ca) (bs.length - e) (ca - e)) W' := run_l A bs.length ca e hel
    have HD := Lib.hid (drop_bytes (HA.out.keep hsi.below (Nat.le_refl _)) hca hel)
    have HSD := Lib.hid (short_drop HS.out e)
    have HSI := Lib.hid hsi
    have HAT := Lib.hid hat
    have HK := Lib.hid hk
    have HM := Lib.hid hm
    clear hsi hat hk hm h0
    cases hok : okF (bs.drop e) with
    | false =>
      have HO := Lib.hid hok
      have HSTOP := Lib.hid (HAT.out.stop hok)
      clear hok
      gi_wp2_with (refine ⟨trivial, ?_⟩; gi_at_call 19; refine (callsIn_wide.2 (open_no (cutAt A e ca) (ca - e) (bs.length - e) (bs.drop e) W (HD.out.up hW) HSD.out (by rw [List.length_drop]; omega) (by rw [List.length_drop]; omega) (by rw [List.length_drop]) HO.out)).mono ?_; rintro e5 w5 ⟨rfl, hb⟩; have HSI5 := Lib.hid (HSI.out.keep hb); have HK5 := Lib.hid (HK.out.trans (keeps_below hb)); clear hb)
      refine bodyPost_ret (results_none rfl _ _ _) rfl ?_
      exact ⟨⟨_, rfl⟩, .inl ⟨HK5.out, by rw [← HSTOP.out.1, ← HSTOP.out.2]; exact HSI5.out⟩⟩
    | true =>
      have HO := Lib.hid hok
      have hi8 := okF_is hok
      rw [List.length_drop] at hi8
      obtain ⟨hi8, _, hi9, _⟩ := hi8
      have HNX := Lib.hid (HAT.out.next hok)
      clear hok
      generalize hn : numN (bs.drop e) = n' at hi9 HNX
      have HN := Lib.hid hn
      clear hn
      have hcast : (((e + (8 + n') : Nat)) : Int) = (e : Int) + (8 + (n' : Int)) := by omega
      gi_wp2_with (refine ⟨trivial, ?_⟩; gi_at_call 19; refine (callsIn_wide.2 (open_yes (cutAt A e ca) (ca - e) (bs.length - e) (bs.drop e) W (HD.out.up hW) HSD.out (by rw [List.length_drop]; omega) (by rw [List.length_drop]; omega) (by rw [List.length_drop]) HO.out)).mono ?_; rintro e5 w5 ⟨C, d, rfl, hn5, hb⟩; rw [HN.out]; have HPR : Hid (It.Pre w A ca bs ⟨ls, e, C, d⟩ w5 ∧ KeepsFrom B W0 w5) := Lib.hid ⟨⟨HSI.out.keep hb, HAT.out, HO.out, hn5.lower (by have := HSI.out.box.lt; omega)⟩, HK.out.trans (keeps_below hb)⟩; clear hb hn5; obtain ⟨f1, t1, a1, b1, hy1, hR1⟩ := hY ⟨ls, e, C, d⟩ w5 HPR.out.1 HPR.out.2; dsimp only [It.encs] at hy1; rw [HN.out, hcast] at hy1; have HR1 := Lib.hid hR1; clear hR1)
      refine HR1.out.mono ?_
      clear HR1 hy1
      rintro e6 w6 (⟨rfl, hk6, hp6⟩ | ⟨rfl, hx6⟩)
      · have hp7 : SI w A bs.length ca (ls ++ [heldF (bs.drop e)]) (e + (8 + n')) w6 := by rw [← HN.out]; exact hp6
        have HP := Lib.hid hp7
        have HK6 := Lib.hid (HPR.out.2.trans hk6)
        clear hp6 hp7 hk6
        gi_wp2
        go_roundg (bs.length - (e + (8 + n')))
        case rel => exact ⟨_, _, rfl, by go_num, HNX.out, HP.out, HK6.out⟩
        case measure => have := HM.out; omega
      · gi_wp2
        refine bodyPost_ret (results_none rfl _ _ _) rfl ?_
        exact ⟨⟨_, rfl⟩, .inr hx6⟩
end Go.Proofs.Ytdagpmmachaeaaa
