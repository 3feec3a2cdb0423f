/- Texts in one: Read, Deep, Weight, Self, Itself, Sound, Pairs, Same, RefW. -/
import Derived.Test.YthnljaheplhbkaaAll
import Derived.Sort.CutIn
import Derived.Test.YthnljaheplhbkaaBaseA
import Derived.Test.YthnljaheplhbkaaLays
import Derived.WalkKit
import Derived.WalkSpells
import Derived.WalkLawsBesides
import Derived.Deep.QuietTactic
import Derived.BigQuiet
import Derived.Lib.Hide
import Derived.IntWalk
import Derived.Deep.RegionLaw
import Derived.BigRegion
import Derived.Shelf.Abstract
import Derived.Shelf.RegionOpen
import Derived.OwnWalkIn
import Derived.TacticsInMore
import Derived.LoopNIn
import Derived.LoopIn
import Derived.Sort.LoopGhostIn
import Derived.StillTailTactics
import Derived.Lib.QuietBelow
/- A walk over all that is in a value whose body reads: what lies ahead lies where it lay when the walk began. -/
namespace Go.Proofs.Ythnljaheplhbkaa
open Go Go.RowKit Go.Shelf
attribute [local go_sem] Oper.semAt_some

/-- What lies ahead lies in blocks below n0, as it did in the world w0. -/
structure Ahead (n0 : Nat) (w0 : World) (S : List Item) : Prop where
  ats : ∀ x ∈ S, x.b < n0 ∧ (∃ e cs, e ≠ 92 ∧ e ≠ 99999 ∧ Whole w0 x.b e cs) ∧ x.g.at (fun k => k < n0) w0 x.b x.off

theorem LstV.kids {n0 : Nat} {w0 : World} {L : Value} {l : List GV} (h : LstV (fun k => k < n0) w0 L l) (d : Nat) :
    ∃ A c lb lo, L = .slice A l.length c ∧ (l ≠ [] → A = some ⟨lb, lo, none⟩) ∧ Ahead n0 w0 (itemsAt d lb 5 lo l) := by
  rcases h with ⟨rfl, rfl⟩ | ⟨b, o, c, rfl, h1, h2, hK, hE⟩
  · exact ⟨_, _, 0, 0, rfl, fun h => absurd rfl h, ⟨fun x hx => by simp [itemsAt] at hx⟩⟩
  · refine ⟨_, _, b, o, rfl, fun _ => rfl, ?_⟩
    have : ∀ (l : List GV) (o : Nat), GV.els (fun k => k < n0) w0 b 5 o l → Ahead n0 w0 (itemsAt d b 5 o l) := fun l => by
      induction l with
      | nil => exact fun o _ => ⟨fun x hx => by simp [itemsAt] at hx⟩
      | cons g r ih =>
        intro o hE
        unfold GV.els at hE
        refine ⟨fun x hx => ?_⟩
        simp only [itemsAt, List.mem_cons] at hx
        rcases hx with rfl | hx
        · obtain ⟨hb, cur, hc⟩ := hK
          exact ⟨hb, ⟨_, cur, by decide, by decide, hc⟩, hE.1⟩
        · exact (ih _ hE.2).ats x hx
    exact this l o hE
theorem ObjV.kids {n0 : Nat} {w0 : World} {O : Value} {ks : List ByteArray} {ov : List GV} (h : ObjV (fun k => k < n0) w0 O ks ov) (d : Nat) :
    ∃ A c ob oo, O = .slice A ov.length c ∧ (ov ≠ [] → A = some ⟨ob, oo, none⟩) ∧ Ahead n0 w0 (itemsAt d ob 6 (oo + 1) ov) := by
  rcases h.2 with ⟨rfl, rfl⟩ | ⟨b, o, c, rfl, h1, h2, hK, _, hE⟩
  · exact ⟨_, _, 0, 0, rfl, fun h => absurd rfl h, ⟨fun x hx => by simp [itemsAt] at hx⟩⟩
  · refine ⟨_, _, b, o, rfl, fun _ => rfl, ?_⟩
    have : ∀ (l : List GV) (o : Nat), GV.els (fun k => k < n0) w0 b 6 o l → Ahead n0 w0 (itemsAt d b 6 o l) := fun l => by
      induction l with
      | nil => exact fun o _ => ⟨fun x hx => by simp [itemsAt] at hx⟩
      | cons g r ih =>
        intro o hE
        unfold GV.els at hE
        refine ⟨fun x hx => ?_⟩
        simp only [itemsAt, List.mem_cons] at hx
        rcases hx with rfl | hx
        · obtain ⟨hb, cur, hc⟩ := hK
          exact ⟨hb, ⟨_, cur, by decide, by decide, hc⟩, hE.1⟩
        · exact (ih _ hE.2).ats x hx
    exact this ov (o + 1) hE

theorem Ahead.front {n0 : Nat} {w0 : World} {S T : List Item} (h : Ahead n0 w0 (S ++ T)) : Ahead n0 w0 S := ⟨fun x hx => h.ats x (List.mem_append.2 (.inl hx))⟩
theorem Ahead.join {n0 : Nat} {w0 : World} {S T : List Item} (h : Ahead n0 w0 S) (k : Ahead n0 w0 T) : Ahead n0 w0 (S ++ T) := ⟨fun x hx => (List.mem_append.1 hx).elim (h.ats x) (k.ats x)⟩

/-- The one that comes: its cells, now; what is in it. -/
theorem Ahead.now {n0 : Nat} {w0 W : World} {rest : List Item} {x : Item} (h : Ahead n0 w0 (rest ++ [x])) (hb : Below n0 w0 W) :
    ∃ AL cL AO cO lb lo ob oo, W.cell? ⟨x.b, x.off, none⟩ = some (.int .u8 x.g.kind) ∧ W.cell? ⟨x.b, x.off + 1, none⟩ = some (.int .i64 x.g.num) ∧ W.cell? ⟨x.b, x.off + 2, none⟩ = some (.string x.g.str) ∧
      W.cell? ⟨x.b, x.off + 3, none⟩ = some (.slice AL x.g.items.length cL) ∧ W.cell? ⟨x.b, x.off + 4, none⟩ = some (.slice AO x.g.vals.length cO) ∧
      LstV (fun k => k < n0) w0 (.slice AL x.g.items.length cL) x.g.items ∧ ObjV (fun k => k < n0) w0 (.slice AO x.g.vals.length cO) x.g.keys x.g.vals ∧
      (∀ W', Below n0 w0 W' → KidsAt W' x 92 lb lo ob oo) ∧ Ahead n0 w0 (rest ++ kids x lb lo ob oo) := by
  obtain ⟨hlt, ⟨e, cs, he, he', hw⟩, hat⟩ := h.ats x (by simp)
  obtain ⟨L, O, h0, h1, h2, h3, h4, hL, hO⟩ := GV.at_iff.1 hat
  obtain ⟨AL, cL, lb, lo, rfl, hl, hal⟩ := hL.kids (x.d + 1)
  obtain ⟨AO, cO, ob, oo, rfl, ho, hao⟩ := hO.kids (x.d + 1)
  have c : ∀ {W' : World} (_ : Below n0 w0 W') (j : Nat), W'.cell? ⟨x.b, j, none⟩ = w0.cell? ⟨x.b, j, none⟩ := fun h j => h.cell (p := ⟨x.b, j, none⟩) hlt
  refine ⟨AL, cL, AO, cO, lb, lo, ob, oo, (c hb _).trans h0, (c hb _).trans h1, (c hb _).trans h2, (c hb _).trans h3, (c hb _).trans h4, hL, hO, fun W' hW' => ⟨⟨e, cs, he, hw.below hW' hlt⟩, ⟨AL, cL, (c hW' _).trans h3, hl⟩, ⟨AO, cO, (c hW' _).trans h4, ho⟩⟩, h.front.join (hal.join hao)⟩

theorem Whole.apart {W : World} {b l : Nat} {t : TypeId} {cs : Array Value} {o : Obj} (h : Whole W b t cs) (hl : W.heap[l]? = some o) (ho : o.isCells = false) (o' : Obj) : Whole (W.putObj l o') b t cs := by
  refine h.of_eq (World.putObj_heap_other ?_)
  rintro rfl
  rw [show W.heap[b]? = _ from h] at hl
  cases hl
  cases ho
theorem below_apart {n0 l : Nat} {w0 W : World} (h : Below n0 w0 W) (hl : n0 ≤ l) {o : Obj} (hk : W.heap[l]? = some o) (o' : Obj) : Below n0 w0 (W.putObj l o') :=
  h.trans ((Below.refl n0 W).grown (grownBy_putObj' W l o') (by have := (Array.getElem?_eq_some_iff.1 hk).1; omega) (fun k e => by cases e; omega))
theorem KidsAt.apart {W : World} {x : Item} {e : TypeId} {lb lo ob oo l : Nat} {o : Obj} (h : KidsAt W x e lb lo ob oo) (hl : W.heap[l]? = some o) (ho : o.isCells = false) (o' : Obj) : KidsAt (W.putObj l o') x e lb lo ob oo := by
  obtain ⟨t, cs, hne, hw⟩ := h.whole
  have hw' := hw.apart hl ho o'
  have he : (W.putObj l o').heap[x.b]? = W.heap[x.b]? := (show _ = _ from hw').trans (show W.heap[x.b]? = _ from hw).symm
  obtain ⟨A1, c1, h1, h1'⟩ := h.lst
  obtain ⟨A2, c2, h2, h2'⟩ := h.obj
  exact ⟨⟨t, cs, hne, hw'⟩, ⟨A1, c1, (World.cell?_of_block (a := ⟨x.b, x.off + 3, none⟩) he).trans h1, h1'⟩, ⟨A2, c2, (World.cell?_of_block (a := ⟨x.b, x.off + 4, none⟩) he).trans h2, h2'⟩⟩
theorem Owned.apart {W : World} {e : TypeId} {own : List (Nat × Array Value)} {l : Nat} {o : Obj} (h : Owned e own W) (hl : W.heap[l]? = some o) (ho : o.isCells = false) (o' : Obj) : Owned e own (W.putObj l o') := fun p hp => (h p hp).apart hl ho o'
theorem pre_apart {B : Nat} {J : List Item → World → Prop} (hJ : ∀ S, Apart B (J S)) (x : Due) : Apart B (Due.Pre J x) :=
  fun W l o o' hB hl ho ho' h => ⟨hJ _ W l o o' hB hl ho ho' h.1, h.2.apart hl ho o'⟩
theorem post_apart {B : Nat} {J : List Item → World → Prop} (hJ : ∀ S, Apart B (J S)) (x : Due) : Apart B (Due.Post J x) := by
  rintro W l o o' hB hl ho ho' ⟨h, lb, lo, ob, oo, hk, hj⟩
  exact ⟨h.apart hl ho o', lb, lo, ob, oo, hk.apart hl ho o', hJ _ W l o o' hB hl ho ho' hj⟩

/-- The reader's own word: what lies ahead, and one cell of its own of which C holds. -/
structure Reads1 (n0 : Nat) (w0 : World) (bm : Nat) (tm : TypeId) (C : List Item → Value → Prop) (S : List Item) (W : World) : Prop where
  ahead : Ahead n0 w0 S
  below : Below n0 w0 W
  box : ∃ u, Whole W bm tm #[u] ∧ C S u
section
variable {n0 : Nat} {w0 : World} {bm : Nat} {tm : TypeId} {C : List Item → Value → Prop}
theorem Reads1.apart {B : Nat} (hB : n0 ≤ B) (S : List Item) : Apart B (Reads1 n0 w0 bm tm C S) := fun W l o o' hl hk ho _ h => by
  obtain ⟨u, hu, hc⟩ := h.box
  exact ⟨h.ahead, below_apart h.below (by omega) hk o', u, hu.apart hk ho o', hc⟩
theorem Reads1.but {base : Nat} (hn : n0 ≤ base) (hw : n0 ≤ w0.heap.size) (htm : tm ≠ 92) (S : List Item) (X Y : World) (h : Reads1 n0 w0 bm tm C S X) (hb : But 92 base X Y) : Reads1 n0 w0 bm tm C S Y := by
  obtain ⟨u, hu, hc⟩ := h.box
  exact ⟨h.ahead, h.below.trans (hb.below hn (by have := h.below.size; omega)), u, hb.whole hu htm, hc⟩
end

theorem Whole.ne {W : World} {b b' : Nat} {t t' : TypeId} {cs cs' : Array Value} (h : Whole W b t cs) (h' : Whole W b' t' cs') (hne : t ≠ t') : b ≠ b' := by
  rintro rfl
  have h2 : some (Obj.cells cs t (0, 0)) = some (Obj.cells cs' t' (0, 0)) := (show W.heap[b]? = _ from h).symm.trans h'
  simp at h2
  exact hne h2.2
theorem Owned.far {W : World} {own : List (Nat × Array Value)} {e t : TypeId} {bm : Nat} {cs : Array Value} (h : Owned e own W) (hw : Whole W bm t cs) (hne : t ≠ e) (j : Nat) (u : Value) : Owned e own (W.setCell ⟨bm, j, none⟩ u) :=
  fun p hp => (h p hp).far ((h p hp).ne hw (fun e' => hne e'.symm)) u
theorem Owned.alloc {W : World} {own : List (Nat × Array Value)} {e : TypeId} (h : Owned e own W) (o : Obj) : Owned e own (W.alloc o) := fun p hp => (h p hp).alloc o
theorem Owned.below {W W' : World} {own : List (Nat × Array Value)} {e : TypeId} (h : Owned e own W) (hb : Below W.heap.size W W') : Owned e own W' := fun p hp => (h p hp).below hb (h p hp).lt

theorem keeps_below {D : Nat} {W W' : World} (hb : Below W.heap.size W W') : KeepsFrom D W W' := ⟨hb.size, fun k _ _ hk _ => (hb.block k (Array.getElem?_eq_some_iff.1 hk).1).trans hk⟩

/-- A round that has read, and stored in its own cell. -/
theorem reads_next {n0 D bm : Nat} {w0 W : World} {tm : TypeId} {C : List Item → Value → Prop} {rest : List Item} {x : Item} {own : List (Nat × Array Value)} {u u' : Value} (hbm : n0 ≤ bm) (htm : tm ≠ 92)
    (hA : Ahead n0 w0 (rest ++ [x])) (hB : Below n0 w0 W) (hu : Whole W bm tm #[u]) (hO : Owned 92 own W) (hC : ∀ lb lo ob oo, C (rest ++ kids x lb lo ob oo) u') :
    KeepsFrom D W (W.setCell ⟨bm, 0, none⟩ u') ∧ Due.Post (Reads1 n0 w0 bm tm C) (x, rest, own) (W.setCell ⟨bm, 0, none⟩ u') := by
  obtain ⟨_, _, _, _, lb, lo, ob, oo, _, _, _, _, _, _, _, hk, ha⟩ := hA.now hB
  have hb' : Below n0 w0 (W.setCell ⟨bm, 0, none⟩ u') := hB.setCell hbm _
  exact ⟨(KeepsOthers.setCell _ _ _).from _, hO.far hu htm 0 u', lb, lo, ob, oo, hk _ hb', ⟨ha, hb', u', hu.put 0 u', hC lb lo ob oo⟩⟩
/-- A round that has read. -/
theorem reads_stay {n0 D bm : Nat} {w0 W W' : World} {tm : TypeId} {C : List Item → Value → Prop} {rest : List Item} {x : Item} {own : List (Nat × Array Value)} {u : Value}
    (hA : Ahead n0 w0 (rest ++ [x])) (hB : Below n0 w0 W) (hn : n0 ≤ W.heap.size) (hu : Whole W bm tm #[u]) (hO : Owned 92 own W) (hb : Below W.heap.size W W') (hk : KeepsFrom D W W') (hC : ∀ lb lo ob oo, C (rest ++ kids x lb lo ob oo) u) :
    KeepsFrom D W W' ∧ Due.Post (Reads1 n0 w0 bm tm C) (x, rest, own) W' := by
  have hb' : Below n0 w0 W' := hB.trans (hb.mono hn)
  obtain ⟨_, _, _, _, lb, lo, ob, oo, _, _, _, _, _, _, _, hk', ha⟩ := hA.now hb'
  exact ⟨hk, hO.below hb, lb, lo, ob, oo, hk' _ hb', ⟨ha, hb', u, hu.below hb hu.lt, hC lb lo ob oo⟩⟩

theorem call_all (p : Option Addr) (w : World) : Calls Try.prog 52 #[.pointer p] w fun e w' => e = .returned (.func (.func 62) #[] #[.pointer (some ⟨w.heap.size, 0, none⟩)]) ∧ w.alloc (.cells #[.pointer p] 79) = w' := by
  go_enter Try.func52, Try.ntmps52
  go_wp2
  go_ret
  exact ⟨rfl, rfl⟩

def dmaxs : List Item → Nat
  | [] => 0
  | x :: r => max (x.d + x.g.deep) (dmaxs r)
theorem dmaxs_append (a b : List Item) : dmaxs (a ++ b) = max (dmaxs a) (dmaxs b) := by
  induction a with
  | nil => simp [dmaxs]
  | cons x r ih => simp [dmaxs, ih, Nat.max_assoc]
theorem dmaxs_items {d b step : Nat} : ∀ {off : Nat} {l : List GV}, max d (dmaxs (itemsAt (d + 1) b step off l)) = d + GV.deeps l
  | _, [] => by simp [itemsAt, dmaxs, GV.deeps]
  | off, g :: r => by
    have := dmaxs_items (d := d) (b := b) (step := step) (off := off + step) (l := r)
    simp only [itemsAt, dmaxs, GV.deeps]
    omega
theorem dmaxs_kids (x : Item) (lb lo ob oo : Nat) : max x.d (dmaxs (kids x lb lo ob oo)) = x.d + x.g.deep := by
  have h1 := dmaxs_items (d := x.d) (b := lb) (step := 5) (off := lo) (l := x.g.items)
  have h2 := dmaxs_items (d := x.d) (b := ob) (step := 6) (off := oo + 1) (l := x.g.vals)
  have h3 : x.g.deep = max (GV.deeps x.g.items) (GV.deeps x.g.vals) := by cases x.g with | mk k n s l ks ov => simp only [GV.deep, GV.items, GV.vals]
  unfold kids
  rw [dmaxs_append, h3]
  omega

/-- Where the walk over all that is in v begins: v lies in the block at w's end. -/
theorem ahead_start {ok : Nat → Prop} {w : World} {g : GV} {L O : Value} (hL : LstV ok w L g.items) (hO : ObjV ok w O g.keys g.vals) :
    Ahead (w.heap.size + 1) (w.alloc (.cells #[.int .u8 g.kind, .int .i64 g.num, .string g.str, L, O] 31)) [⟨0, w.heap.size, 0, g⟩] := by
  have hF : From ok w (w.alloc (.cells #[.int .u8 g.kind, .int .i64 g.num, .string g.str, L, O] 31)) := fun k _ hk => Below.heap_alloc _ _ _ hk
  have hw := Whole.new w 31 #[.int .u8 g.kind, .int .i64 g.num, .string g.str, L, O]
  refine ⟨fun x hx => ?_⟩
  simp only [List.mem_singleton] at hx
  subst hx
  refine ⟨by simp, ⟨_, _, by decide, by decide, hw⟩, GV.at_iff.2 ⟨L, O, (hw.cell 0).trans rfl, (hw.cell 1).trans rfl, (hw.cell 2).trans rfl, (hw.cell 3).trans rfl, (hw.cell 4).trans rfl, hL.keep hF (fun k _ hk => by omega), hO.keep hF (fun k _ hk => by omega)⟩⟩
end Go.Proofs.Ythnljaheplhbkaa

/- Deep, the program's. -/
namespace Go.Proofs.Ythnljaheplhbkaa
open Go Go.RowKit Go.Shelf
attribute [local go_sem] Oper.semAt_some

end Go.Proofs.Ythnljaheplhbkaa

/- Weight, the program's. -/
namespace Go.Proofs.Ythnljaheplhbkaa
open Go Go.RowKit Go.Shelf
attribute [local go_sem] Oper.semAt_some


def wsum : List Item → Nat
  | [] => 0
  | x :: r => x.g.weight + wsum r
theorem wsum_append (a b : List Item) : wsum (a ++ b) = wsum a + wsum b := by
  induction a with
  | nil => simp [wsum]
  | cons x r ih => simp [wsum, ih]; omega
theorem wsum_items {d b step : Nat} : ∀ {off : Nat} {l : List GV}, wsum (itemsAt d b step off l) = GV.weights l
  | _, [] => by simp [itemsAt, wsum, GV.weights]
  | _, _ :: r => by simp [itemsAt, wsum, GV.weights, wsum_items (l := r)]
def ksum (ks : List ByteArray) : Nat := (ks.map (·.size)).sum
theorem ksum_take (ks : List ByteArray) (k : Nat) (h : k < ks.length) : ksum (ks.take (k + 1)) = ksum (ks.take k) + ks[k].size := by
  unfold ksum; rw [List.take_succ_eq_append_getElem h, List.map_append, List.sum_append]; simp
theorem ksum_le (ks : List ByteArray) (k : Nat) : ksum (ks.take k) ≤ ksum ks := by
  have : ksum (ks.take k ++ ks.drop k) = ksum (ks.take k) + ksum (ks.drop k) := by unfold ksum; rw [List.map_append, List.sum_append]
  rw [List.take_append_drop] at this
  omega
theorem weight_eq (x : Item) (lb lo ob oo : Nat) : x.g.weight = 1 + x.g.str.size + ksum x.g.keys + wsum (kids x lb lo ob oo) := by
  unfold kids
  rw [wsum_append, wsum_items, wsum_items]
  cases x.g with | mk k n s l ks ov => simp only [GV.weight, GV.str, GV.items, GV.keys, GV.vals, ksum]; omega
theorem weight_le {x : Item} : ∀ {S : List Item}, x ∈ S → x.g.weight ≤ wsum S
  | [], h => by cases h
  | y :: r, h => by
    simp only [wsum]
    rcases List.mem_cons.1 h with rfl | h
    · omega
    · have := weight_le h; omega
/-- Between the rounds of the loop over the keys. -/
def KeyRel (n0 bm D m : Nat) (w0 W : World) (own : List (Nat × Array Value)) (ks : List ByteArray) (i : Value) (wr : World) : Prop :=
  ∃ k : Nat, i = .int .i64 k ∧ k ≤ ks.length ∧ Whole wr bm 3 #[.int .i64 ((m + ksum (ks.take k) : Nat) : Int)] ∧ Below n0 w0 wr ∧ Owned 92 own wr ∧ KeepsFrom D W wr
theorem size_le_weight : ∀ (g : GV), g.size ≤ g.weight := by
  have h : (∀ g : GV, g.size ≤ g.weight) ∧ (∀ l : List GV, GV.sizes l ≤ GV.weights l) := by
    refine ⟨fun g => ?_, fun l => ?_⟩
    · exact GV.rec (motive_1 := fun g => g.size ≤ g.weight) (motive_2 := fun l => GV.sizes l ≤ GV.weights l) (fun k n s l ks ov h1 h2 => by simp only [GV.size, GV.weight]; omega) (by simp [GV.sizes]) (fun a r h1 h2 => by simp only [GV.sizes, GV.weights]; omega) g
    · exact GV.rec_1 (motive_1 := fun g => g.size ≤ g.weight) (motive_2 := fun l => GV.sizes l ≤ GV.weights l) (fun k n s l ks ov h1 h2 => by simp only [GV.size, GV.weight]; omega) (by simp [GV.sizes]) (fun a r h1 h2 => by simp only [GV.sizes, GV.weights]; omega) l
  exact h.1

end Go.Proofs.Ythnljaheplhbkaa

/- What is asked of a value apart from the values in it: soundKeys, soundItself. -/
namespace Go.Proofs.Ythnljaheplhbkaa
open Go Go.RowKit Go.Shelf

def less' (a b : ByteArray) : Bool := Op.bytesLess a.toList b.toList
def valid (s : ByteArray) : Bool := Lib.validD s.data.toList
/-- The keys up to the n-th are UTF-8 and rise. -/
def KeysTo (ks : List ByteArray) (n : Nat) : Prop := ∀ (i : Nat) (k : ByteArray), i < n → ks[i]? = some k → valid k = true ∧ (∀ (j : Nat) (p : ByteArray), i = j + 1 → ks[j]? = some p → less' p k = true)
def KeysOk (ks : List ByteArray) : Prop := KeysTo ks ks.length
theorem KeysTo.succ {ks : List ByteArray} {n : Nat} (h : KeysTo ks n) {k : ByteArray} (hk : ks[n]? = some k) (hv : valid k = true) (hl : ∀ (j : Nat) (p : ByteArray), n = j + 1 → ks[j]? = some p → less' p k = true) : KeysTo ks (n + 1) := by
  intro i k' hi hk'
  by_cases e : i = n
  · subst e; rw [hk] at hk'; cases hk'; exact ⟨hv, hl⟩
  · exact h i k' (by omega) hk'

def BoolPost (P : Prop) (w : World) (e : Ending) (w' : World) : Prop := ∃ b : Bool, e = .returned (.bool b) ∧ (b = true ↔ P) ∧ Below w.heap.size w w'
def KeysRel (w : World) (ks : List ByteArray) (i : Value) (wr : World) : Prop := ∃ k : Nat, i = .int .i64 k ∧ k ≤ ks.length ∧ KeysTo ks k ∧ Below w.heap.size w wr

end Go.Proofs.Ythnljaheplhbkaa

/- soundItself: what is asked of a value apart from the values in it. -/
namespace Go.Proofs.Ythnljaheplhbkaa
open Go Go.RowKit Go.Shelf

/-- A value is sound, apart from the values in it. -/
def SelfP (gk gn : Int) (gs : ByteArray) (gl : List GV) (gy : List ByteArray) (go : List GV) : Prop :=
  (gk = 0 ∨ gk = 1 ∨ gk = 2 ∨ gk = 3 ∨ gk = 4 ∨ gk = 5) ∧
  (gk = 2 ∨ gn = 0 ∨ gk = 1 ∧ gn = 1) ∧ (gk = 3 ∧ valid gs = true ∨ gk ≠ 3 ∧ gs.toList = []) ∧
  (gk = 4 ∨ gl = []) ∧ (gk = 5 ∧ KeysOk gy ∨ gk ≠ 5 ∧ go = [])
def SelfOk (g : GV) : Prop := SelfP g.kind g.num g.str g.items g.keys g.vals

end Go.Proofs.Ythnljaheplhbkaa

/- Sound, the program's. -/
namespace Go.Proofs.Ythnljaheplhbkaa
open Go Go.RowKit Go.Shelf
attribute [local go_sem] Oper.semAt_some


mutual
/-- A value is sound. -/
def GV.Sound : GV → Prop
  | .mk k n s l ks ov => SelfP k n s l ks ov ∧ GV.Sounds l ∧ GV.Sounds ov
def GV.Sounds : List GV → Prop
  | [] => True
  | g :: r => GV.Sound g ∧ GV.Sounds r
end
theorem sounds_items {d b step : Nat} : ∀ {off : Nat} {l : List GV}, (∀ x ∈ itemsAt d b step off l, x.g.Sound) ↔ GV.Sounds l
  | _, [] => by simp [itemsAt, GV.Sounds]
  | _, _ :: r => by simp [itemsAt, GV.Sounds, sounds_items (l := r)]
theorem sound_kids (x : Item) (lb lo ob oo : Nat) : x.g.Sound ↔ SelfOk x.g ∧ ∀ y ∈ kids x lb lo ob oo, y.g.Sound := by
  have h : (∀ y ∈ kids x lb lo ob oo, y.g.Sound) ↔ GV.Sounds x.g.items ∧ GV.Sounds x.g.vals := by
    unfold kids
    rw [← sounds_items (d := x.d + 1) (b := lb) (step := 5) (off := lo), ← sounds_items (d := x.d + 1) (b := ob) (step := 6) (off := oo + 1)]
    simp only [List.mem_append]
    exact ⟨fun h => ⟨fun y hy => h y (.inl hy), fun y hy => h y (.inr hy)⟩, fun h y hy => hy.elim (h.1 y) (h.2 y)⟩
  rw [h]
  unfold SelfOk
  cases x.g with | mk k n s l ks ov => simp only [GV.Sound, GV.kind, GV.num, GV.str, GV.items, GV.keys, GV.vals]
end Go.Proofs.Ythnljaheplhbkaa

/- The iterator over all that is at the same places of two values: it hands each pair that lies ahead to yield, then lays by what is in both. -/
namespace Go.Proofs.Ythnljaheplhbkaa
open Go Go.RowKit Go.Shelf

attribute [local go_sem] Oper.semAt_some

abbrev Due2 := Pair × List Pair × List (Nat × Array Value)
abbrev Due2.encs (x : Due2) : Array Value := #[.pointer (some ⟨x.1.1.b, x.1.1.off, none⟩), .pointer (some ⟨x.1.2.b, x.1.2.off, none⟩)]
def Due2.Pre (J : List Pair → World → Prop) (x : Due2) (W : World) : Prop := J (x.2.1 ++ [x.1]) W ∧ Owned 99999 x.2.2 W
def Due2.Post (J : List Pair → World → Prop) (x : Due2) (W : World) : Prop :=
  Owned 99999 x.2.2 W ∧ ∃ lb lo ob oo lb' lo' ob' oo', KidsAt W x.1.1 99999 lb lo ob oo ∧ KidsAt W x.1.2 99999 lb' lo' ob' oo' ∧ J (x.2.1 ++ kids2 x.1 lb lo ob oo lb' lo' ob' oo') W

structure AllInv2 (B M : Nat) (J : List Pair → World → Prop) (W0 : World) (base : Nat) (S : List Pair) (v : Value) (W : World) : Prop where
  row : W.ownsRow base 99999 2 v S.length (pcellsOf S)
  inv : J S W
  keep : KeepsFrom B W0 W
  size : base ≤ W.heap.size
  small : ∀ x ∈ S, x.1.g.size ≤ M ∧ x.2.g.size ≤ M
  sum : psum S ≤ M

def AllRel2 (B M : Nat) (J : List Pair → World → Prop) (W0 : World) (base : Nat) (m : Nat) (v : Value) (W : World) : Prop := ∃ S, psum S = m ∧ AllInv2 B M J W0 base S v W

/-- Between the rounds of the loops that lay by what is in both. -/
structure PushInv2 (W3 : World) (base ab : Nat) (bc : Array Value) (rest its : List Pair) (k : Nat) (v : Value) (W : World) : Prop where
  row : W.ownsRow base 99999 2 v (rest.length + k) (pcellsOf (rest ++ its.take k))
  but : But 99999 base W3 W
  box : Whole W ab 99999 bc
  ne : v.ownBlock ≠ some ab
def PushRel2 (W3 : World) (base ab : Nat) (bc : Array Value) (rest its : List Pair) (n : Nat) (v i : Value) (W : World) : Prop :=
  ∃ k : Nat, i = .int .i64 k ∧ k ≤ n ∧ PushInv2 W3 base ab bc rest its k v W

theorem PushInv2.push {W3 wr W4 : World} {base ab k : Nat} {bc : Array Value} {rest its : List Pair} {v v' : Value} (h : PushInv2 W3 base ab bc rest its k v wr) (o : Obj) (y : Pair) (hy : its.take (k + 1) = its.take k ++ [y])
    (hown : W4.ownsRow base 99999 2 v' (rest.length + k + 1) (pcellsOf (rest ++ its.take k) ++ pcells y)) (hg' : (wr.alloc o).drew.grownBy W4 v.ownBlock) (hat : v'.ownBlock = v.ownBlock ∨ v'.ownBlock = some (wr.alloc o).drew.heap.size) :
    PushInv2 W3 base ab bc rest its (k + 1) v' W4 := by
  have hg : (wr.alloc o).grownBy W4 v.ownBlock := ⟨hg'.os, hg'.tape, hg'.output, hg'.size, hg'.block⟩
  refine ⟨?_, (h.but.alloc o).grown (h.row.alloc o) hg, (h.box.alloc o).grown hg (fun e => h.ne e.symm), ?_⟩
  · rw [hy, ← List.append_assoc, pcellsOf_append]
    simpa [pcellsOf, Nat.add_assoc] using hown
  · rcases hat with e | e
    · rw [e]; exact h.ne
    · rw [e]; intro e'; have := h.box.lt; have e2 : (wr.alloc o).heap.size = ab := Option.some.inj e'; simp at e2; omega

/-- The first lists have been laid by: on to the second. -/
theorem PushInv2.second {W3 wr : World} {base ab : Nat} {bc : Array Value} {rest its its2 : List Pair} {k : Nat} {v : Value} (h : PushInv2 W3 base ab bc rest its k v wr) (hk : k = its.length) : PushInv2 W3 base ab bc (rest ++ its) its2 0 v wr := by
  subst hk
  refine ⟨?_, h.but, h.box, h.ne⟩
  have := h.row
  rw [List.take_length] at this
  simpa using this

theorem Whole.drewN' {W : World} {b : Nat} {t : TypeId} {cs : Array Value} (h : Whole W b t cs) (n : Nat) : Whole (W.drewN n) b t cs := h
theorem _root_.Go.World.ownsRow.drewN' {W : World} {base : Nat} {e : TypeId} {size n : Nat} {v : Value} {xs : List Value} (h : W.ownsRow base e size v n xs) (k : Nat) : (W.drewN k).ownsRow base e size v n xs := h
theorem But.drewN' {e : TypeId} {base : Nat} {A B : World} (h : But e base A B) (n : Nat) : But e base A (B.drewN n) := ⟨h.os, h.tape, h.output, h.size, h.same⟩

theorem zip_len {b step b' step' off off' : Nat} {l l' : List GV} : ((itemsAt 0 b step off l).zip (itemsAt 0 b' step' off' l')).length = min l.length l'.length := by
  rw [List.length_zip, itemsAt_length, itemsAt_length]
theorem mem_zip_items {b step b' step' off off' : Nat} {l l' : List GV} {x : Pair} (h : x ∈ (itemsAt 0 b step off l).zip (itemsAt 0 b' step' off' l')) : x.1.g.size ≤ GV.sizes l ∧ x.2.g.size ≤ GV.sizes l' := by
  have := List.of_mem_zip (a := x.1) (b := x.2) h
  exact ⟨(mem_items this.1).2, (mem_items this.2).2⟩

/-- A round of the great loop has come to its end. -/
theorem AllInv2.next {B M base : Nat} {J : List Pair → World → Prop} (hJ : ∀ S X Y, J S X → But 99999 base X Y → J S Y) {W0 wo W3 W5 : World} {rest : List Pair} {x : Pair} {v vo : Value} {lb lo ob oo lb' lo' ob' oo' ab k : Nat} {bc : Array Value}
    (h : AllInv2 B M J W0 base (rest ++ [x]) vo wo) (hJ3 : J (rest ++ kids2 x lb lo ob oo lb' lo' ob' oo') W3) (hk3 : KeepsFrom B wo W3)
    (hp : PushInv2 W3 base ab bc (rest ++ (itemsAt 0 lb 5 lo x.1.g.items).zip (itemsAt 0 lb' 5 lo' x.2.g.items)) ((itemsAt 0 ob 6 (oo + 1) x.1.g.vals).zip (itemsAt 0 ob' 6 (oo' + 1) x.2.g.vals)) k v W5) (hk : k = min x.1.g.vals.length x.2.g.vals.length) :
    AllInv2 B M J W0 base (rest ++ kids2 x lb lo ob oo lb' lo' ob' oo') v W5 ∧ psum (rest ++ kids2 x lb lo ob oo lb' lo' ob' oo') < psum (rest ++ [x]) := by
  have hs := psum_kids2 x lb lo ob oo lb' lo' ob' oo'
  have hx : psum (rest ++ [x]) = psum rest + x.1.g.size := by rw [psum_append]; simp [psum]
  have hsum := h.sum
  have hsm := h.small x (by simp)
  refine ⟨⟨?_, hJ _ _ _ hJ3 hp.but, (h.keep.trans hk3).trans (hp.but.others B), ?_, ?_, ?_⟩, ?_⟩
  · have := hp.row
    rw [hk, List.take_of_length_le (by rw [zip_len]; exact Nat.le_refl _), List.append_assoc] at this
    have e : (rest ++ kids2 x lb lo ob oo lb' lo' ob' oo').length = (rest ++ (itemsAt 0 lb 5 lo x.1.g.items).zip (itemsAt 0 lb' 5 lo' x.2.g.items)).length + min x.1.g.vals.length x.2.g.vals.length := by
      unfold kids2; rw [List.length_append, List.length_append, zip_len, zip_len, List.length_append, zip_len]; omega
    rw [e]
    exact this
  · have h1 := h.size; have h2 := hk3.size; have h3 := hp.but.size; omega
  · intro y hy
    rcases List.mem_append.1 hy with hy | hy
    · exact h.small y (by simp [hy])
    · have hz := size_eq x.1.g
      have hz' := size_eq x.2.g
      unfold kids2 at hy
      rcases List.mem_append.1 hy with hy | hy
      · have := mem_zip_items hy; omega
      · have := mem_zip_items hy; omega
  · rw [psum_append]; omega
  · rw [psum_append]; omega

end Go.Proofs.Ythnljaheplhbkaa

/- Same, the program's. -/
namespace Go.Proofs.Ythnljaheplhbkaa
open Go Go.RowKit Go.Shelf
attribute [local go_sem] Oper.semAt_some

mutual
/-- Two values are the same. -/
def GV.Same : GV → GV → Prop
  | .mk k n s l ks ov, h => SameSelf (.mk k n s l ks ov) h ∧ GV.Sames l h.items ∧ GV.Sames ov h.vals
def GV.Sames : List GV → List GV → Prop
  | [], _ => True
  | _ :: _, [] => True
  | g :: r, h :: q => GV.Same g h ∧ GV.Sames r q
end
theorem same_eq (g h : GV) : g.Same h ↔ SameSelf g h ∧ GV.Sames g.items h.items ∧ GV.Sames g.vals h.vals := by
  cases g with | mk k n s l ks ov => simp only [GV.Same, GV.items, GV.vals]
theorem sames_zip {b step b' step' : Nat} : ∀ {off off' : Nat} {l l' : List GV}, (∀ x ∈ (itemsAt 0 b step off l).zip (itemsAt 0 b' step' off' l'), x.1.g.Same x.2.g) ↔ GV.Sames l l'
  | _, _, [], _ => by simp [itemsAt, GV.Sames]
  | _, _, _ :: _, [] => by simp [itemsAt, GV.Sames]
  | off, off', g :: r, h :: q => by
    have := sames_zip (b := b) (step := step) (b' := b') (step' := step') (off := off + step) (off' := off' + step') (l := r) (l' := q)
    simp only [itemsAt, List.zip_cons_cons, List.mem_cons, GV.Sames, ← this]
    exact ⟨fun h => ⟨h _ (.inl rfl), fun x hx => h x (.inr hx)⟩, fun h x hx => hx.elim (fun e => by rw [e]; exact h.1) (h.2 x)⟩
theorem same_kids (x : Pair) (lb lo ob oo lb' lo' ob' oo' : Nat) : x.1.g.Same x.2.g ↔ SameSelf x.1.g x.2.g ∧ ∀ y ∈ kids2 x lb lo ob oo lb' lo' ob' oo', y.1.g.Same y.2.g := by
  rw [same_eq, ← sames_zip (b := lb) (step := 5) (b' := lb') (step' := 5) (off := lo) (off' := lo'), ← sames_zip (b := ob) (step := 6) (b' := ob') (step' := 6) (off := oo + 1) (off' := oo' + 1)]
  unfold kids2
  simp only [List.mem_append]
  exact ⟨fun h => ⟨h.1, fun y hy => hy.elim (h.2.1 y) (h.2.2 y)⟩, fun h => ⟨h.1, fun y hy => h.2 y (.inl hy), fun y hy => h.2 y (.inr hy)⟩⟩

/-- What lies ahead of both lies where it lay. -/
structure Ahead2 (n0 : Nat) (w0 : World) (S : List Pair) : Prop where
  one : ∀ x ∈ S, Ahead n0 w0 [x.1]
  two : ∀ x ∈ S, Ahead n0 w0 [x.2]
theorem Ahead.mem {n0 : Nat} {w0 : World} {S : List Item} (h : Ahead n0 w0 S) {x : Item} (hx : x ∈ S) : Ahead n0 w0 [x] := ⟨fun y hy => by simp at hy; subst hy; exact h.ats y hx⟩
theorem Ahead.one {n0 : Nat} {w0 W : World} {x : Item} (h : Ahead n0 w0 [x]) (hb : Below n0 w0 W) :
    ∃ AL cL AO cO lb lo ob oo, ValAt W x.b x.off x.g AL AO cL cO ∧ ObjV (fun k => k < n0) w0 (.slice AO x.g.vals.length cO) x.g.keys x.g.vals ∧
      (∀ W', Below n0 w0 W' → KidsAt W' x 99999 lb lo ob oo) ∧ Ahead n0 w0 (itemsAt 0 lb 5 lo x.g.items) ∧ Ahead n0 w0 (itemsAt 0 ob 6 (oo + 1) x.g.vals) := by
  obtain ⟨hlt, ⟨e, cs, he, he', hw⟩, hat⟩ := h.ats x (by simp)
  obtain ⟨L, O, h0, h1, h2, h3, h4, hL, hO⟩ := GV.at_iff.1 hat
  obtain ⟨AL, cL, lb, lo, rfl, hl, hal⟩ := hL.kids 0
  obtain ⟨AO, cO, ob, oo, rfl, ho, hao⟩ := hO.kids 0
  have c : ∀ {W' : World} (_ : Below n0 w0 W') (j : Nat), W'.cell? ⟨x.b, j, none⟩ = w0.cell? ⟨x.b, j, none⟩ := fun h j => h.cell (p := ⟨x.b, j, none⟩) hlt
  exact ⟨AL, cL, AO, cO, lb, lo, ob, oo, ⟨(c hb _).trans h0, (c hb _).trans h1, (c hb _).trans h2, (c hb _).trans h3, (c hb _).trans h4⟩, hO, fun W' hW' => ⟨⟨e, cs, he', hw.below hW' hlt⟩, ⟨AL, cL, (c hW' _).trans h3, hl⟩, ⟨AO, cO, (c hW' _).trans h4, ho⟩⟩, hal, hao⟩
theorem Ahead2.zip {n0 : Nat} {w0 : World} {a b : List Item} (ha : Ahead n0 w0 a) (hb : Ahead n0 w0 b) : Ahead2 n0 w0 (a.zip b) :=
  ⟨fun x hx => ha.mem (List.of_mem_zip (a := x.1) (b := x.2) hx).1, fun x hx => hb.mem (List.of_mem_zip (a := x.1) (b := x.2) hx).2⟩
theorem Ahead2.front {n0 : Nat} {w0 : World} {S T : List Pair} (h : Ahead2 n0 w0 (S ++ T)) : Ahead2 n0 w0 S := ⟨fun x hx => h.one x (List.mem_append.2 (.inl hx)), fun x hx => h.two x (List.mem_append.2 (.inl hx))⟩
theorem Ahead2.join {n0 : Nat} {w0 : World} {S T : List Pair} (h : Ahead2 n0 w0 S) (k : Ahead2 n0 w0 T) : Ahead2 n0 w0 (S ++ T) :=
  ⟨fun x hx => (List.mem_append.1 hx).elim (h.one x) (k.one x), fun x hx => (List.mem_append.1 hx).elim (h.two x) (k.two x)⟩

structure Reads2 (n0 : Nat) (w0 : World) (bm : Nat) (g h : GV) (S : List Pair) (W : World) : Prop where
  ahead : Ahead2 n0 w0 S
  below : Below n0 w0 W
  box : Whole W bm 4 #[.bool false]
  same : g.Same h ↔ ∀ x ∈ S, x.1.g.Same x.2.g
section
variable {n0 : Nat} {w0 : World} {bm : Nat} {g h : GV}
theorem Reads2.apart {B : Nat} (hB : n0 ≤ B) (S : List Pair) : Apart B (Reads2 n0 w0 bm g h S) := fun W l o o' hl hk ho _ q =>
  ⟨q.ahead, below_apart q.below (by omega) hk o', q.box.apart hk ho o', q.same⟩
theorem Reads2.but {base : Nat} (hn : n0 ≤ base) (hw : n0 ≤ w0.heap.size) (S : List Pair) (X Y : World) (q : Reads2 n0 w0 bm g h S X) (hb : But 99999 base X Y) : Reads2 n0 w0 bm g h S Y :=
  ⟨q.ahead, q.below.trans (hb.below hn (by have := q.below.size; omega)), hb.whole q.box (by decide), q.same⟩
end
theorem pre2_apart {B : Nat} {J : List Pair → World → Prop} (hJ : ∀ S, Apart B (J S)) (x : Due2) : Apart B (Due2.Pre J x) :=
  fun W l o o' hB hl ho ho' h => ⟨hJ _ W l o o' hB hl ho ho' h.1, h.2.apart hl ho o'⟩
theorem post2_apart {B : Nat} {J : List Pair → World → Prop} (hJ : ∀ S, Apart B (J S)) (x : Due2) : Apart B (Due2.Post J x) := by
  rintro W l o o' hB hl ho ho' ⟨h, lb, lo, ob, oo, lb', lo', ob', oo', hk, hk', hj⟩
  exact ⟨h.apart hl ho o', lb, lo, ob, oo, lb', lo', ob', oo', hk.apart hl ho o', hk'.apart hl ho o', hJ _ W l o o' hB hl ho ho' hj⟩

theorem ahead2_start {ok : Nat → Prop} {w : World} {g h : GV} {L O L' O' : Value} (hL : LstV ok w L g.items) (hO : ObjV ok w O g.keys g.vals) (hL' : LstV ok w L' h.items) (hO' : ObjV ok w O' h.keys h.vals) :
    Ahead2 (w.heap.size + 1 + 1) ((w.alloc (.cells #[.int .u8 g.kind, .int .i64 g.num, .string g.str, L, O] 31)).alloc (.cells #[.int .u8 h.kind, .int .i64 h.num, .string h.str, L', O'] 31)) [(⟨0, w.heap.size, 0, g⟩, ⟨0, w.heap.size + 1, 0, h⟩)] := by
  obtain ⟨w0, hw0⟩ : ∃ w0, w0 = (w.alloc (.cells #[.int .u8 g.kind, .int .i64 g.num, .string g.str, L, O] 31)).alloc (.cells #[.int .u8 h.kind, .int .i64 h.num, .string h.str, L', O'] 31) := ⟨_, rfl⟩
  rw [← hw0]
  have hb : Below w.heap.size w w0 := by rw [hw0]; exact ((Below.refl _ _).alloc (Nat.le_refl _) _).alloc (by simp) _
  have hF : From ok w w0 := .of_below hb
  have h1 : Whole w0 w.heap.size 31 #[.int .u8 g.kind, .int .i64 g.num, .string g.str, L, O] := by rw [hw0]; exact (Whole.new _ _ _).alloc _
  have h2 : Whole w0 (w.heap.size + 1) 31 #[.int .u8 h.kind, .int .i64 h.num, .string h.str, L', O'] := by
    rw [hw0]
    have := Whole.new (w.alloc (.cells #[.int .u8 g.kind, .int .i64 g.num, .string g.str, L, O] 31)) 31 #[.int .u8 h.kind, .int .i64 h.num, .string h.str, L', O']
    rwa [World.size_alloc] at this
  refine ⟨fun x hx => ⟨fun y hy => ?_⟩, fun x hx => ⟨fun y hy => ?_⟩⟩
  · simp only [List.mem_singleton] at hx hy
    subst hx
    subst hy
    exact ⟨by simp; omega, ⟨_, _, by decide, by decide, h1⟩, GV.at_iff.2 ⟨L, O, (h1.cell 0).trans rfl, (h1.cell 1).trans rfl, (h1.cell 2).trans rfl, (h1.cell 3).trans rfl, (h1.cell 4).trans rfl, hL.keep hF (fun k _ hk => by omega), hO.keep hF (fun k _ hk => by omega)⟩⟩
  · simp only [List.mem_singleton] at hx hy
    subst hx
    subst hy
    exact ⟨by simp, ⟨_, _, by decide, by decide, h2⟩, GV.at_iff.2 ⟨L', O', (h2.cell 0).trans rfl, (h2.cell 1).trans rfl, (h2.cell 2).trans rfl, (h2.cell 3).trans rfl, (h2.cell 4).trans rfl, hL'.keep hF (fun k _ hk => by omega), hO'.keep hF (fun k _ hk => by omega)⟩⟩

end Go.Proofs.Ythnljaheplhbkaa

/- The document's own Weight: what it comes to for a value, whatever it is. -/
namespace Go.Proofs.Ythnljaheplhbkaa
open Go Go.RowKit Go.Sort

theorem wrap_small (x : Int) (h0 : 0 ≤ x) (h1 : x < 9223372036854775808) : IntKind.i64.wrap x = x := by
  simp [IntKind.wrap, IntKind.bits, IntKind.signed]
  omega
theorem weights_get : ∀ (l : List GV) (k : Nat) (h : k < l.length), l[k].weight ≤ GV.weights l
  | [], _, h => by simp at h
  | x :: r, 0, _ => by simp [GV.weights]
  | x :: r, k + 1, h => by
    have := weights_get r k (by simpa using h)
    simp only [GV.weights, List.getElem_cons_succ]
    omega

/-- Between the rounds: how far, and what was come to. -/
def WtRel (W0 : World) (ks : List ByteArray) (l : List GV) (z : Nat) (n i : Value) (wr : World) : Prop := ∃ k : Nat, i = .int .i64 k ∧ k ≤ l.length ∧ n = .int .i64 (z + ksum (ks.take k) + GV.weights (l.take k) : Nat) ∧ Below W0.heap.size W0 wr

end Go.Proofs.Ythnljaheplhbkaa
