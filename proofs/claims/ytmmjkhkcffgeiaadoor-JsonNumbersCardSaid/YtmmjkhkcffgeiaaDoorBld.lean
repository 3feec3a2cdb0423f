/- The builder that is embedded in json's writer: what its methods do at a block of the writer's type. -/
import Derived.Test.YtmmjkhkcffgeiaaDoorBaseA
import Derived.Test.YtmmjkhkcffgeiaaDoorPlain
import Derived.Lib.Builder
import Derived.Lib.OthersKept
import Derived.Lib.BufferKept
import Derived.Lib.AppendStr
import Derived.Lib.UnsafeStr
import Derived.Lib.Strings
import Derived.Lib.Walk
import Derived.Laws.Externs
import Derived.Laws.BitsLemmas
import Derived.WalkKit
import Derived.Shelf.RegionOpenPlain
import Derived.RegionTactic
namespace Go.Proofs.YtmmjkhkcffgeiaaDoor
open Go Go.RowKit Go.Shelf

theorem sizeBld : (Tryd.prog.info? 48).map (·.size) = some 2 := by kernel_rfl
theorem liesBld : liesAt Tryd.prog Tryd.prog.depth 50 (2 / Tryd.prog.cellsOf 50) 0 48 1 = true := by kernel_rfl

set_option maxHeartbeats 1000000 in
set_option maxRecDepth 100000 in
theorem check_used (b : Nat) (w : World) (h0 : w.cell? ⟨b, 0, none⟩ = some (.pointer (some ⟨b, 0, none⟩))) :
    Calls Tryd.prog 50 #[.pointer (some ⟨b, 0, none⟩)] w fun e w' => e = .returned (.tuple #[]) ∧ w' = w := by
  obtain ⟨j, hj, _⟩ := Option.map_eq_some_iff.1 sizeBld
  go_enter Tryd.func50, Tryd.ntmps50
  go_wp2
  rw [Lib.run_neq_ptr_same w _ Tryd.underlying46 hj]
  go_wp2
  go_end0
  exact ⟨rfl, rfl⟩

set_option maxHeartbeats 1000000 in
set_option maxRecDepth 100000 in
theorem check_fresh (b : Nat) (w : World) (h0 : w.cell? ⟨b, 0, none⟩ = some (.pointer none)) (hsh : w.shape? b = some (50, 2)) (hfz : w.frozen? ⟨b, 0, none⟩ = false) :
    Calls Tryd.prog 50 #[.pointer (some ⟨b, 0, none⟩)] w fun e w' => e = .returned (.tuple #[]) ∧ w' = w.setCell ⟨b, 0, none⟩ (.pointer (some ⟨b, 0, none⟩)) := by
  obtain ⟨j, hj, hjs⟩ := Option.map_eq_some_iff.1 sizeBld
  go_enter Tryd.func50, Tryd.ntmps50
  go_wp2
  rw [Lib.run_to_unsafe w ⟨b, 0, none⟩ Tryd.underlying46 Tryd.underlying105 hj (by rw [hjs]; decide) hsh (Nat.zero_lt_succ 1)]
  simp only [Result.andThen]
  rw [Oper.upon_value]
  go_wp2
  rw [run_callFunc_extern Tryd.func59 (by kernel_rfl) (by kernel_rfl) (by kernel_rfl) (e := Extern.AbiNoEscape.same) (by kernel_rfl)]
  rw [Lib.run_noEscape]
  simp only [Result.andThen]
  rw [Oper.upon_value]
  go_wp2
  rw [Lib.run_from_unsafe w ⟨b, 0, none⟩ Tryd.underlying105 Tryd.underlying46 hj hsh liesBld]
  simp only [Result.andThen]
  rw [Oper.upon_value]
  go_wp2
  go_end0
  exact ⟨rfl, rfl⟩

/-- The builder at b, of the bytes bs: fresh or used. -/
abbrev Bld (B b : Nat) (bs : List Value) (w : World) : Prop := Lib.IsBuilder 50 5 B b bs w
abbrev BldAt (B b : Nat) (bs : List Value) (w : World) : Prop := Lib.BuilderAt 50 5 B b (.pointer (some ⟨b, 0, none⟩)) bs w
/-- What a write may turn: the builder, its row, new blocks; nothing below B. -/
structure Wr (B b : Nat) (W W' : World) : Prop where
  below : Below B W W'
  kept : Lib.OthersKept 5 (some b) W W'
theorem Wr.refl (B b : Nat) (W : World) : Wr B b W W := ⟨Below.refl _ _, Lib.OthersKept.refl _ _ _⟩
theorem Wr.trans {B b : Nat} {W W1 W2 : World} (h : Wr B b W W1) (k : Wr B b W1 W2) : Wr B b W W2 := ⟨h.below.trans k.below, h.kept.trans k.kept⟩
theorem Wr.drew {B b : Nat} {W W1 : World} (h : Wr B b W W1) : Wr B b W W1.drew := ⟨h.below.drew, h.kept.drew⟩
theorem Wr.alloc {B b : Nat} {W W1 : World} (h : Wr B b W W1) (hB : B ≤ W1.heap.size) (o : Obj) : Wr B b W (W1.alloc o) := ⟨h.below.alloc hB o, h.kept.alloc o⟩
theorem Wr.later {B b : Nat} {W W1 W2 : World} (h : Wr B b W W1) (hB : B ≤ W1.heap.size) (hb : Below W1.heap.size W1 W2) : Wr B b W W2 := ⟨h.below.trans (hb.mono hB), h.kept.below hb⟩
/-- What is no row of bytes, nor the builder, lies as it lay. -/
theorem Wr.whole {B b : Nat} {W W1 : World} (h : Wr B b W W1) {k : Nat} {t : TypeId} {cs : Array Value} (hw : Whole W k t cs) (hk : k ≠ b) (ht : t ≠ 5) : Whole W1 k t cs :=
  h.kept k _ hw (fun e => hk (Option.some.inj e)) (fun c fz e => ht (by cases e; rfl))
theorem Wr.set {B b : Nat} {W W1 : World} (h : Wr B b W W1) (hB : B ≤ b) (i : Nat) (v : Value) : Wr B b W (W1.setCell ⟨b, i, none⟩ v) := ⟨h.below.setCell (p := ⟨b, i, none⟩) hB v, h.kept.setCell ⟨b, i, none⟩ rfl v⟩
theorem own_cells {B n : Nat} {v : Value} {bs : List Value} {w : World} (h : w.ownsRow B 5 1 v n bs) (g : Nat) (e : v.ownBlock = some g) : ∃ c fz, w.heap[g]? = some (.cells c 5 fz) := by
  rcases h.2 with ⟨hn, _⟩ | ⟨g', cap, cur, he, _, hg, _⟩
  · rw [hn] at e; cases e
  · rw [he] at e; cases e; exact ⟨_, _, hg⟩
theorem Wr.grown {B b n : Nat} {v : Value} {bs : List Value} {W W1 W2 : World} (h : Wr B b W W1) (hB : B ≤ W1.heap.size) (ho : W1.ownsRow B 5 1 v n bs) (hg : W1.grownBy W2 v.ownBlock) : Wr B b W W2 :=
  ⟨h.below.grown hg hB (fun k hk => (ho.lt k hk).1), h.kept.grown hg (fun g e => own_cells ho g e)⟩
theorem bld_check (B b : Nat) (bs : List Value) (w : World) (h : Bld B b bs w) :
    Calls Tryd.prog 50 #[.pointer (some ⟨b, 0, none⟩)] w fun e w' => e = .returned (.tuple #[]) ∧ BldAt B b bs w' ∧ Wr B b w w' := by
  rcases h with h | h
  · refine (check_fresh b w h.cell0 h.shape h.frozen0).mono ?_
    rintro e w' ⟨rfl, rfl⟩
    exact ⟨rfl, h.used _, (Wr.refl B b w).set h.1 0 _⟩
  · refine (check_used b w h.cell0).mono ?_
    rintro e w' ⟨rfl, rfl⟩
    exact ⟨rfl, h, Wr.refl B b _⟩

theorem bld_lt {B b : Nat} {bs : List Value} {w : World} (h : BldAt B b bs w) : B ≤ b ∧ b < w.heap.size := ⟨h.1, h.lt⟩

set_option maxHeartbeats 2000000 in
set_option maxRecDepth 100000 in
theorem bld_byte (B b : Nat) (bs : List Value) (c : Int) (w : World) (h : Bld B b bs w) (hlen : bs.length + 1 ≤ 140737488355328) :
    Calls Tryd.prog 53 #[.pointer (some ⟨b, 0, none⟩), .int .u8 c] w fun e w' => e = .returned .nilIface ∧ BldAt B b (bs ++ [.int .u8 c]) w' ∧ Wr B b w w' := by
  obtain ⟨i0, hi0, hz0, hz1, hz2⟩ := info_parts infoByte
  have HI0 := Lib.hid (And.intro hi0 (And.intro hz0 (And.intro hz1 hz2)))
  have HC := Lib.hid (bld_check B b bs w h)
  clear hi0 hz0 hz1 hz2 h
  have hmax : bs.length + 1 ≤ maxLen := by unfold maxLen; omega
  go_enter Tryd.func53, Tryd.ntmps53
  go_wp2_with (first | (go_at_call 50; refine HC.out.mono ?_; rintro e w1 ⟨rfl, h1, hb1⟩; have H1 := Lib.hid (And.intro h1 hb1); obtain ⟨hBb, v, hbk, hown, hne⟩ := h1; obtain ⟨A0, c0', rfl⟩ := own_form hown; have hlt := H1.out.1.lt; have c1 : w1.cell? ⟨b, 1, none⟩ = some (.slice A0 bs.length c0') := (by rw [Lib.cell_of_heap hbk]; rfl); have HO := Lib.hid hown; have HK := Lib.hid hbk; have HNE := Lib.hid hne; clear hown hbk hne hb1) | (at_builtin; refine wpList_append_own_at _ rfl (.tmp 11) (.tmp 13) 23 rfl B 5 i0 _ 1 1 Tryd.underlying23 HI0.out.1 HI0.out.2.1 HI0.out.2.2.1 HI0.out.2.2.2 rfl (by decide) (.slice A0 bs.length c0') bs.length bs rfl (HO.out.alloc _) ⟨w1.heap.size, 0, none⟩ 1 1 [.int .u8 c] rfl rfl (row_cells' _ _ rfl _ _) (by simp [Value.oneCell']) hmax (by omega) (by simp; omega) ?_; intro v3 W3 hown3 hgrow3 _ hat3; obtain ⟨A3, c3, rfl⟩ := own_form hown3; have hb2 : W3.heap[b]? = some (.cells #[.pointer (some ⟨b, 0, none⟩), .slice A0 bs.length c0'] 50 (0, 0)) := (by rw [hgrow3.block b (by simp; omega) (fun e => HNE.out e.symm), Below.heap_alloc _ _ _ hlt]; exact HK.out); have d1 : W3.cell? ⟨b, 1, none⟩ = some (.slice A0 bs.length c0') := (by rw [Lib.cell_of_heap hb2]; rfl); have f1 : W3.frozen? ⟨b, 1, none⟩ = false := Lib.frozen_of_heap hb2 1; have H3 := Lib.hid (And.intro hown3 (And.intro hgrow3 hb2)); clear hown3 hgrow3 hat3 hb2))
  go_ret
  refine ⟨rfl, Lib.BuilderAt.put hBb H3.out.2.2 (bs' := bs ++ [.int .u8 c]) (by simpa using H3.out.1) (by decide), ?_⟩
  exact ((H1.out.2.alloc (by omega) _).grown (by simp; omega) (HO.out.alloc _) H3.out.2.1).set hBb 1 _

set_option maxHeartbeats 2000000 in
set_option maxRecDepth 100000 in
theorem bld_str (B b : Nat) (bs : List Value) (s : ByteArray) (w : World) (h : Bld B b bs w) (hlen : bs.length + s.size ≤ 140737488355328) :
    Calls Tryd.prog 36 #[.pointer (some ⟨b, 0, none⟩), .string s] w fun e w' => e = .returned (.tuple #[.int .i64 s.size, .nilIface]) ∧ BldAt B b (bs ++ Lib.strCells s) w' ∧ Wr B b w w' := by
  obtain ⟨i0, hi0, hz0, hz1, hz2⟩ := info_parts infoByte
  have HI0 := Lib.hid (And.intro hi0 (And.intro hz0 (And.intro hz1 hz2)))
  have HC := Lib.hid (bld_check B b bs w h)
  clear hi0 hz0 hz1 hz2 h
  have hmax : bs.length + s.size ≤ maxLen := by unfold maxLen; omega
  go_enter Tryd.func36, Tryd.ntmps36
  go_wp2_with (first | (go_at_call 50; refine HC.out.mono ?_; rintro e w1 ⟨rfl, h1, hb1⟩; have H1 := Lib.hid (And.intro h1 hb1); obtain ⟨hBb, v, hbk, hown, hne⟩ := h1; obtain ⟨A0, c0', rfl⟩ := own_form hown; have hlt := H1.out.1.lt; have c1 : w1.cell? ⟨b, 1, none⟩ = some (.slice A0 bs.length c0') := (by rw [Lib.cell_of_heap hbk]; rfl); have HO := Lib.hid hown; have HK := Lib.hid hbk; have HNE := Lib.hid hne; clear hown hbk hne hb1) | (at_builtin; refine Lib.wpList_append_own_string _ rfl (.tmp 12) (.tmp 13) 23 9 rfl B 5 i0 Tryd.underlying23 Tryd.underlying9 HI0.out.1 HI0.out.2.1 HI0.out.2.2.1 HI0.out.2.2.2 (.slice A0 bs.length c0') bs.length bs rfl HO.out s rfl hmax (by omega) (by omega) ?_; intro v3 W3 hown3 hgrow3 _; obtain ⟨A3, c3, rfl⟩ := own_form hown3; have hb2 : W3.heap[b]? = some (.cells #[.pointer (some ⟨b, 0, none⟩), .slice A0 bs.length c0'] 50 (0, 0)) := (by rw [hgrow3.block b hlt (fun e => HNE.out e.symm)]; exact HK.out); have d1 : W3.cell? ⟨b, 1, none⟩ = some (.slice A0 bs.length c0') := (by rw [Lib.cell_of_heap hb2]; rfl); have f1 : W3.frozen? ⟨b, 1, none⟩ = false := Lib.frozen_of_heap hb2 1; have H3 := Lib.hid (And.intro hown3 (And.intro hgrow3 hb2)); clear hown3 hgrow3 hb2))
  go_ret2
  refine ⟨rfl, Lib.BuilderAt.put hBb H3.out.2.2 (bs' := bs ++ Lib.strCells s) (by simpa [Lib.strCells_length] using H3.out.1) (by decide), ?_⟩
  exact (H1.out.2.grown (by omega) HO.out H3.out.2.1).set hBb 1 _

theorem cellsByte : Tryd.prog.cellsOf 5 = 1 := by kernel_rfl
set_option maxHeartbeats 2000000 in
set_option maxRecDepth 100000 in
theorem bld_string (B b : Nat) (l : List UInt8) (w : World) (h : BldAt B b (Lib.byteCells l) w) (h0 : l ≠ []) :
    Calls Tryd.prog 22 #[.pointer (some ⟨b, 0, none⟩)] w fun e w' => e = .returned (.string ⟨l.toArray⟩) ∧ Below B w w' := by
  obtain ⟨hB, v, hbk, hown, hne⟩ := h
  have hl0 : l.length ≠ 0 := by simpa using h0
  rw [Lib.byteCells_length] at hown
  rcases hown.2 with ⟨_, hz⟩ | ⟨g, cap, cur, rfl, hbg, hg, hnc, hcm, hcs, htake⟩
  · exact absurd hz hl0
  have c1 : w.drew.cell? ⟨b, 1, none⟩ = some (.slice (some ⟨g, 0, none⟩) l.length cap) := by
    have : w.drew.heap[b]? = some (.cells #[.pointer (some ⟨b, 0, none⟩), .slice (some ⟨g, 0, none⟩) l.length cap] 50 (0, 0)) := hbk
    rw [Lib.cell_of_heap this]; rfl
  have hSD : (Builtin.unsafeSliceData_ #[23] 76 #[.slice (some ⟨g, 0, none⟩) l.length cap]).run Tryd.prog w.drew = .ok (.pointer (some ⟨g, 0, none⟩)) w.drew :=
    Lib.run_unsafeSliceData_row _ _ _ _ _ _ (by omega)
  have hUS : (Builtin.unsafeString_ #[76, 3] 9 #[.pointer (some ⟨g, 0, none⟩), .int .i64 l.length]).run Tryd.prog w.drew = .ok (.string ⟨l.toArray⟩) (w.drew.freeze ⟨g, 0, none⟩ l.length) := by
    refine Lib.run_unsafeString_row w.drew 76 3 9 5 Tryd.underlying76 cellsByte g cur.size (by have hg' : w.drew.heap[g]? = some (.cells cur 5 (0, 0)) := hg; simp [World.shape?, hg']) l h0 (by omega) (by unfold maxLen at hcm; omega) ?_
    intro j x hx
    exact hown.cells (g := g) rfl j (.int .u8 x.toNat) (by simp [Lib.byteCells, hx])
  have HB := Lib.hid hbg
  clear hbk hown hne hg hcs htake hbg h0 hl0
  go_enter Tryd.func22, Tryd.ntmps22
  go_wp2
  go_region
  all_goals (go_wp2; go_ret; exact ⟨rfl, Lib.below_freeze (Below.drew (Below.refl B w)) (p := ⟨g, 0, none⟩) HB.out _⟩)
end Go.Proofs.YtmmjkhkcffgeiaaDoor
