/- Texts in one: BldS, BldG, BldH. -/
import Derived.Test.YthnljaheplhbkaaDoorBaseA
import Derived.Test.YthnljaheplhbkaaDoorBaseE
import Derived.Lib.Builder
import Derived.Lib.OthersKept
import Derived.Lib.MakeNoZero
import Derived.Lib.BufferKept
import Derived.Lib.AppendStr
import Derived.Lib.UnsafeStr
import Derived.Lib.Strings
import Derived.Lib.Walk
import Derived.Laws.Externs
import Derived.Laws.BitsLemmas
import Derived.WalkKit
import Derived.Shelf.RegionOpenPlain
import Derived.RegionTactic
import Derived.BigQuiet
import Derived.Deep.QuietTactic
import Derived.Lib.Hide
/- A builder of its own: what its methods do. -/
namespace Go.Proofs.YthnljaheplhbkaaDoor
open Go Go.RowKit Go.Shelf

theorem sizeSB : (Tryd.prog.info? 162).map (·.size) = some 2 := by kernel_rfl
theorem liesSB : liesAt Tryd.prog Tryd.prog.depth 162 (2 / Tryd.prog.cellsOf 162) 0 162 1 = true := by kernel_rfl

set_option maxHeartbeats 1000000 in
set_option maxRecDepth 100000 in
theorem sb_used (b : Nat) (w : World) (h0 : w.cell? ⟨b, 0, none⟩ = some (.pointer (some ⟨b, 0, none⟩))) :
    Calls Tryd.prog 169 #[.pointer (some ⟨b, 0, none⟩)] w fun e w' => e = .returned (.tuple #[]) ∧ w' = w := by
  obtain ⟨j, hj, _⟩ := Option.map_eq_some_iff.1 sizeSB
  go_enter Tryd.func169, Tryd.ntmps169
  go_wp2
  rw [Lib.run_neq_ptr_same w _ Tryd.underlying160 hj]
  go_wp2
  go_end0
  exact ⟨rfl, rfl⟩

set_option maxHeartbeats 1000000 in
set_option maxRecDepth 100000 in
theorem sb_fresh (b : Nat) (w : World) (h0 : w.cell? ⟨b, 0, none⟩ = some (.pointer none)) (hsh : w.shape? b = some (162, 2)) (hfz : w.frozen? ⟨b, 0, none⟩ = false) :
    Calls Tryd.prog 169 #[.pointer (some ⟨b, 0, none⟩)] w fun e w' => e = .returned (.tuple #[]) ∧ w' = w.setCell ⟨b, 0, none⟩ (.pointer (some ⟨b, 0, none⟩)) := by
  obtain ⟨j, hj, hjs⟩ := Option.map_eq_some_iff.1 sizeSB
  go_enter Tryd.func169, Tryd.ntmps169
  go_wp2
  rw [Lib.run_to_unsafe w ⟨b, 0, none⟩ Tryd.underlying160 Tryd.underlying193 hj (by rw [hjs]; decide) hsh (Nat.zero_lt_succ 1)]
  simp only [Result.andThen]
  rw [Oper.upon_value]
  go_wp2
  rw [run_callFunc_extern Tryd.func178 (by kernel_rfl) (by kernel_rfl) (by kernel_rfl) (e := Extern.AbiNoEscape.same) (by kernel_rfl)]
  rw [Lib.run_noEscape]
  simp only [Result.andThen]
  rw [Oper.upon_value]
  go_wp2
  rw [Lib.run_from_unsafe w ⟨b, 0, none⟩ Tryd.underlying193 Tryd.underlying160 hj hsh liesSB]
  simp only [Result.andThen]
  rw [Oper.upon_value]
  go_wp2
  go_end0
  exact ⟨rfl, rfl⟩

/-- The builder at b, of the bytes bs: fresh or used. -/
abbrev SB (B b : Nat) (bs : List Value) (w : World) : Prop := Lib.IsBuilder 162 5 B b bs w
abbrev SBAt (B b : Nat) (bs : List Value) (w : World) : Prop := Lib.BuilderAt 162 5 B b (.pointer (some ⟨b, 0, none⟩)) bs w
/-- What a write may turn: the builder, its row, new blocks; nothing below B. -/
structure SWr (B b : Nat) (W W' : World) : Prop where
  below : Below B W W'
  kept : Lib.OthersKept 5 (some b) W W'
theorem SWr.refl (B b : Nat) (W : World) : SWr B b W W := ⟨Below.refl _ _, Lib.OthersKept.refl _ _ _⟩
theorem SWr.trans {B b : Nat} {W W1 W2 : World} (h : SWr B b W W1) (k : SWr B b W1 W2) : SWr B b W W2 := ⟨h.below.trans k.below, h.kept.trans k.kept⟩
theorem SWr.drew {B b : Nat} {W W1 : World} (h : SWr B b W W1) : SWr B b W W1.drew := ⟨h.below.drew, h.kept.drew⟩
theorem SWr.alloc {B b : Nat} {W W1 : World} (h : SWr B b W W1) (hB : B ≤ W1.heap.size) (o : Obj) : SWr B b W (W1.alloc o) := ⟨h.below.alloc hB o, h.kept.alloc o⟩
theorem SWr.later {B b : Nat} {W W1 W2 : World} (h : SWr B b W W1) (hB : B ≤ W1.heap.size) (hb : Below W1.heap.size W1 W2) : SWr B b W W2 := ⟨h.below.trans (hb.mono hB), h.kept.below hb⟩
/-- What is no row of bytes, nor the builder, lies as it lay. -/
theorem SWr.whole {B b : Nat} {W W1 : World} (h : SWr B b W W1) {k : Nat} {t : TypeId} {cs : Array Value} (hw : Whole W k t cs) (hk : k ≠ b) (ht : t ≠ 5) : Whole W1 k t cs :=
  h.kept k _ hw (fun e => hk (Option.some.inj e)) (fun c fz e => ht (by cases e; rfl))
theorem SWr.set {B b : Nat} {W W1 : World} (h : SWr B b W W1) (hB : B ≤ b) (i : Nat) (v : Value) : SWr B b W (W1.setCell ⟨b, i, none⟩ v) := ⟨h.below.setCell (p := ⟨b, i, none⟩) hB v, h.kept.setCell ⟨b, i, none⟩ rfl v⟩
theorem sb_cells {B n : Nat} {v : Value} {bs : List Value} {w : World} (h : w.ownsRow B 5 1 v n bs) (g : Nat) (e : v.ownBlock = some g) : ∃ c fz, w.heap[g]? = some (.cells c 5 fz) := by
  rcases h.2 with ⟨hn, _⟩ | ⟨g', cap, cur, he, _, hg, _⟩
  · rw [hn] at e; cases e
  · rw [he] at e; cases e; exact ⟨_, _, hg⟩
theorem SWr.grown {B b n : Nat} {v : Value} {bs : List Value} {W W1 W2 : World} (h : SWr B b W W1) (hB : B ≤ W1.heap.size) (ho : W1.ownsRow B 5 1 v n bs) (hg : W1.grownBy W2 v.ownBlock) : SWr B b W W2 :=
  ⟨h.below.grown hg hB (fun k hk => (ho.lt k hk).1), h.kept.grown hg (fun g e => sb_cells ho g e)⟩
theorem sb_check (B b : Nat) (bs : List Value) (w : World) (h : SB B b bs w) :
    Calls Tryd.prog 169 #[.pointer (some ⟨b, 0, none⟩)] w fun e w' => e = .returned (.tuple #[]) ∧ SBAt B b bs w' ∧ SWr B b w w' := by
  rcases h with h | h
  · refine (sb_fresh b w h.cell0 h.shape h.frozen0).mono ?_
    rintro e w' ⟨rfl, rfl⟩
    exact ⟨rfl, h.used _, (SWr.refl B b w).set h.1 0 _⟩
  · refine (sb_used b w h.cell0).mono ?_
    rintro e w' ⟨rfl, rfl⟩
    exact ⟨rfl, h, SWr.refl B b _⟩

theorem sb_lt {B b : Nat} {bs : List Value} {w : World} (h : SBAt B b bs w) : B ≤ b ∧ b < w.heap.size := ⟨h.1, h.lt⟩

set_option maxHeartbeats 2000000 in
set_option maxRecDepth 100000 in
theorem sb_str (B b : Nat) (bs : List Value) (s : ByteArray) (w : World) (h : SB B b bs w) (hlen : bs.length + s.size ≤ 140737488355328) :
    Calls Tryd.prog 150 #[.pointer (some ⟨b, 0, none⟩), .string s] w fun e w' => e = .returned (.tuple #[.int .i64 s.size, .nilIface]) ∧ SBAt B b (bs ++ Lib.strCells s) w' ∧ SWr B b w w' := by
  obtain ⟨i0, hi0, hz0, hz1, hz2⟩ := info_parts infoByte
  have HI0 := Lib.hid (And.intro hi0 (And.intro hz0 (And.intro hz1 hz2)))
  have HC := Lib.hid (sb_check B b bs w h)
  clear hi0 hz0 hz1 hz2 h
  have hmax : bs.length + s.size ≤ maxLen := by unfold maxLen; omega
  go_enter Tryd.func150, Tryd.ntmps150
  go_wp2_with (first | (go_at_call 169; refine HC.out.mono ?_; rintro e w1 ⟨rfl, h1, hb1⟩; have H1 := Lib.hid (And.intro h1 hb1); obtain ⟨hBb, v, hbk, hown, hne⟩ := h1; obtain ⟨A0, c0', rfl⟩ := own_form hown; have hlt := H1.out.1.lt; have c1 : w1.cell? ⟨b, 1, none⟩ = some (.slice A0 bs.length c0') := (by rw [Lib.cell_of_heap hbk]; rfl); have HO := Lib.hid hown; have HK := Lib.hid hbk; have HNE := Lib.hid hne; clear hown hbk hne hb1) | (at_builtin; refine Lib.wpList_append_own_string _ rfl (.tmp 12) (.tmp 13) 44 9 rfl B 5 i0 Tryd.underlying44 Tryd.underlying9 HI0.out.1 HI0.out.2.1 HI0.out.2.2.1 HI0.out.2.2.2 (.slice A0 bs.length c0') bs.length bs rfl HO.out s rfl hmax (by omega) (by omega) ?_; intro v3 W3 hown3 hgrow3 _; obtain ⟨A3, c3, rfl⟩ := own_form hown3; have hb2 : W3.heap[b]? = some (.cells #[.pointer (some ⟨b, 0, none⟩), .slice A0 bs.length c0'] 162 (0, 0)) := (by rw [hgrow3.block b hlt (fun e => HNE.out e.symm)]; exact HK.out); have d1 : W3.cell? ⟨b, 1, none⟩ = some (.slice A0 bs.length c0') := (by rw [Lib.cell_of_heap hb2]; rfl); have f1 : W3.frozen? ⟨b, 1, none⟩ = false := Lib.frozen_of_heap hb2 1; have H3 := Lib.hid (And.intro hown3 (And.intro hgrow3 hb2)); clear hown3 hgrow3 hb2))
  go_ret2
  refine ⟨rfl, Lib.BuilderAt.put hBb H3.out.2.2 (bs' := bs ++ Lib.strCells s) (by simpa [Lib.strCells_length] using H3.out.1) (by decide), ?_⟩
  exact (H1.out.2.grown (by omega) HO.out H3.out.2.1).set hBb 1 _

theorem cellsByteS : Tryd.prog.cellsOf 5 = 1 := by kernel_rfl
set_option maxHeartbeats 2000000 in
set_option maxRecDepth 100000 in
theorem sb_string (B b : Nat) (l : List UInt8) (w : World) (h : SBAt B b (Lib.byteCells l) w) (h0 : l ≠ []) :
    Calls Tryd.prog 151 #[.pointer (some ⟨b, 0, none⟩)] w fun e w' => e = .returned (.string ⟨l.toArray⟩) ∧ Below B w w' := by
  obtain ⟨hB, v, hbk, hown, hne⟩ := h
  have hl0 : l.length ≠ 0 := by simpa using h0
  rw [Lib.byteCells_length] at hown
  rcases hown.2 with ⟨_, hz⟩ | ⟨g, cap, cur, rfl, hbg, hg, hnc, hcm, hcs, htake⟩
  · exact absurd hz hl0
  have c1 : w.drew.cell? ⟨b, 1, none⟩ = some (.slice (some ⟨g, 0, none⟩) l.length cap) := by
    have : w.drew.heap[b]? = some (.cells #[.pointer (some ⟨b, 0, none⟩), .slice (some ⟨g, 0, none⟩) l.length cap] 162 (0, 0)) := hbk
    rw [Lib.cell_of_heap this]; rfl
  have hSD : (Builtin.unsafeSliceData_ #[44] 185 #[.slice (some ⟨g, 0, none⟩) l.length cap]).run Tryd.prog w.drew = .ok (.pointer (some ⟨g, 0, none⟩)) w.drew :=
    Lib.run_unsafeSliceData_row _ _ _ _ _ _ (by omega)
  have hUS : (Builtin.unsafeString_ #[185, 3] 9 #[.pointer (some ⟨g, 0, none⟩), .int .i64 l.length]).run Tryd.prog w.drew = .ok (.string ⟨l.toArray⟩) (w.drew.freeze ⟨g, 0, none⟩ l.length) := by
    refine Lib.run_unsafeString_row w.drew 185 3 9 5 Tryd.underlying185 cellsByteS g cur.size (by have hg' : w.drew.heap[g]? = some (.cells cur 5 (0, 0)) := hg; simp [World.shape?, hg']) l h0 (by omega) (by unfold maxLen at hcm; omega) ?_
    intro j x hx
    exact hown.cells (g := g) rfl j (.int .u8 x.toNat) (by simp [Lib.byteCells, hx])
  have HB := Lib.hid hbg
  clear hbk hown hne hg hcs htake hbg h0 hl0
  go_enter Tryd.func151, Tryd.ntmps151
  go_wp2
  go_region
  all_goals (go_wp2; go_ret; exact ⟨rfl, Lib.below_freeze (Below.drew (Below.refl B w)) (p := ⟨g, 0, none⟩) HB.out _⟩)

end Go.Proofs.YthnljaheplhbkaaDoor

/- A builder of its own: grow. -/
namespace Go.Proofs.YthnljaheplhbkaaDoor
open Go Go.RowKit Go.Shelf

theorem sizeByteS : (Tryd.prog.info? 5).map (·.size) = some 1 := by kernel_rfl
theorem neSB : 162 ≠ 5 := by decide
set_option maxHeartbeats 2000000 in
set_option maxRecDepth 1000000 in
theorem sb_grow (B b n : Nat) (w : World) (hB : B ≤ b) (hbk : w.heap[b]? = some (.cells #[.pointer (some ⟨b, 0, none⟩), .slice none 0 0] 162 (0, 0))) (hBw : B ≤ w.heap.size) (hn : n ≤ 281474976710656) :
    Calls Tryd.prog 170 #[.pointer (some ⟨b, 0, none⟩), .int .i64 n] w fun e w' => e = .returned (.tuple #[]) ∧ SBAt B b [] w' ∧ Below B w w' := by
  obtain ⟨cs, hrun, hle, hmax⟩ := Lib.run_makeNoZero (P := Tryd.prog) w.drew #[3] 44 5 Tryd.underlying44 n hn
  have hw : IntKind.i64.wrap (IntKind.i64.wrap 0 + (n : Int)) = n := by
    rw [IntKind.wrap_i64, IntKind.wrap_i64]
    omega
  have hcall : (callFunc 179 #[.int .i64 (IntKind.i64.wrap (IntKind.i64.wrap 0 + (n : Int)))]).run Tryd.prog w.drew = .ok (.value (.slice (some ⟨w.drew.heap.size, 0, none⟩) n cs.size)) (w.drew.drew.drew.alloc (.cells cs 5)) := by
    rw [hw, run_callFunc_extern Tryd.func179 (by kernel_rfl) (by kernel_rfl) (by kernel_rfl) (e := Extern.BytealgMakeNoZero.makeNoZero #[3] #[44]) (by kernel_rfl), hrun]
    rfl
  have c1 : w.drew.cell? ⟨b, 1, none⟩ = some (.slice none 0 0) := by
    have : w.drew.heap[b]? = _ := hbk
    rw [Lib.cell_of_heap this]; rfl
  have hlt : b < w.heap.size := by
    rcases Nat.lt_or_ge b w.heap.size with h' | h'
    · exact h'
    · simp [Array.getElem?_eq_none h'] at hbk
  have c2 : (w.alloc (.cells cs 5)).cell? ⟨b, 1, none⟩ = some (.slice none 0 0) := by
    have : (w.alloc (.cells cs 5)).heap[b]? = _ := (Lib.alloc_old w _ b hlt).trans hbk
    rw [Lib.cell_of_heap this]; rfl
  have f2 : (w.alloc (.cells cs 5)).frozen? ⟨b, 1, none⟩ = false := Lib.frozen_of_heap ((Lib.alloc_old w _ b hlt).trans hbk) 1
  have hcopy : ∀ W : World, (Builtin.copy_ #[44, 44] 3 #[.slice (some ⟨w.heap.size, 0, none⟩) 0 cs.size, .slice none 0 0]).run Tryd.prog W = .ok (goInt 0) W :=
    fun W => run_copy_none W 44 44 3 5 _ _ 0 cs.size 0 0 Tryd.underlying44 sizeByteS rfl
  clear hw hlt
  have mixed : Tryd.prog.follows .mixedOrders = true := by kernel_rfl
  go_enter Tryd.func170, Tryd.ntmps170
  go_wp2
  have hfin := Lib.grown_fresh (T := 162) (e := 5) (cs := cs) hB hbk hBw (hmax (by unfold maxLen; omega)) neSB
  go_region_o
  all_goals (go_wp2; go_end0; exact ⟨rfl, hfin⟩)
end Go.Proofs.YthnljaheplhbkaaDoor

/- A builder of its own: Grow. -/
namespace Go.Proofs.YthnljaheplhbkaaDoor
open Go Go.RowKit Go.Shelf

set_option maxHeartbeats 2000000 in
set_option maxRecDepth 1000000 in
theorem sb_Grow (B b n : Nat) (w : World) (hB : B ≤ b) (hbk : w.heap[b]? = some (.cells #[.pointer none, .slice none 0 0] 162 (0, 0))) (_hBw : B ≤ w.heap.size) (hn : n ≤ 281474976710656) :
    Calls Tryd.prog 149 #[.pointer (some ⟨b, 0, none⟩), .int .i64 n] w fun e w' => e = .returned (.tuple #[]) ∧ SBAt B b [] w' ∧ Below B w w' := by
  have hbk1 : (w.setCell ⟨b, 0, none⟩ (.pointer (some ⟨b, 0, none⟩))).heap[b]? = some (.cells #[.pointer (some ⟨b, 0, none⟩), .slice none 0 0] 162 (0, 0)) := by
    simp [World.setCell, Array.getElem?_modify, hbk]
  have hb1 : Below B w (w.setCell ⟨b, 0, none⟩ (.pointer (some ⟨b, 0, none⟩))) := (Below.refl B w).setCell (p := ⟨b, 0, none⟩) hB _
  have hU : SBAt B b [] (w.setCell ⟨b, 0, none⟩ (.pointer (some ⟨b, 0, none⟩))) := ⟨hB, .slice none 0 0, hbk1, World.ownsRow_nil _ _ _ _, by simp [Value.ownBlock]⟩
  have c1' : (w.setCell ⟨b, 0, none⟩ (.pointer (some ⟨b, 0, none⟩))).drew.cell? ⟨b, 1, none⟩ = some (.slice none 0 0) := by
    have : (w.setCell ⟨b, 0, none⟩ (.pointer (some ⟨b, 0, none⟩))).drew.heap[b]? = _ := hbk1
    rw [Lib.cell_of_heap this]; rfl
  have mixed : Tryd.prog.follows .mixedOrders = true := by kernel_rfl
  go_enter Tryd.func149, Tryd.ntmps149
  go_wp2_with (go_at_call 169; refine (sb_fresh b w (by rw [Lib.cell_of_heap hbk]; rfl) (by simp [World.shape?, hbk]) (Lib.frozen_of_heap hbk 0)).mono ?_; rintro e w' ⟨rfl, rfl⟩)
  generalize hW1 : (w.setCell ⟨b, 0, none⟩ (.pointer (some ⟨b, 0, none⟩))) = W1 at *
  clear hW1
  have c1 : W1.cell? ⟨b, 1, none⟩ = some (.slice none 0 0) := c1'
  have hsz : B ≤ W1.heap.size := by
    have : b < W1.heap.size := by
      rcases Nat.lt_or_ge b W1.heap.size with h' | h'
      · exact h'
      · simp [Array.getElem?_eq_none h'] at hbk1
    omega
  have HH := Lib.hid (And.intro hbk1 (And.intro hb1 (And.intro hU hsz)))
  clear c1' hbk1 hb1 hU hbk hsz
  go_quiet (fail)
  have HD := Lib.hid (show (W1.drewN nq).heap = W1.heap from rfl)
  have HB := Lib.hid (show Below W1.heap.size W1 (W1.drewN nq) from ⟨rfl, rfl, rfl, Nat.le_refl _, fun _ _ => rfl⟩)
  have HU := Lib.hid (show SBAt B b [] (W1.drewN nq) from HH.out.2.2.1)
  have HK := Lib.hid (show (W1.drewN nq).heap[b]? = some (.cells #[.pointer (some ⟨b, 0, none⟩), .slice none 0 0] 162 (0, 0)) from HH.out.1)
  clear c1
  generalize W1.drewN nq = W2 at *
  rcases Nat.eq_zero_or_pos n with h0 | h0
  · have h0' : ¬ 0 < n := by omega
    clear h0
    go_wp2
    go_end0
    exact ⟨rfl, HU.out, HH.out.2.1.trans (HB.out.mono HH.out.2.2.2)⟩
  · go_wp2_with (go_at_call 170; refine (sb_grow B b n W2 hB HK.out (by rw [HD.out]; exact HH.out.2.2.2) hn).mono ?_; rintro e w' ⟨rfl, h1, h2⟩; have HZ := Lib.hid (And.intro h1 h2); clear h1 h2)
    go_end0
    exact ⟨rfl, HZ.out.1, (HH.out.2.1.trans (HB.out.mono HH.out.2.2.2)).trans HZ.out.2⟩
end Go.Proofs.YthnljaheplhbkaaDoor
