/- A walk over all that is in a value whose body reads: what lies ahead lies where it lay when the walk began. -/
import Derived.Test.YtjknicljbmakeaaDoorAll
namespace Go.Proofs.YtjknicljbmakeaaDoor
open Go Go.RowKit Go.Shelf
attribute [local go_sem] Oper.semAt_some

/-- What lies ahead lies in blocks below n0, as it did in the world w0. -/
structure Ahead (n0 : Nat) (w0 : World) (S : List Item) : Prop where
  ats : ∀ x ∈ S, x.b < n0 ∧ (∃ e cs, e ≠ 84 ∧ e ≠ 94 ∧ Whole w0 x.b e cs) ∧ x.g.at (fun k => k < n0) w0 x.b x.off

theorem LstV.kids {n0 : Nat} {w0 : World} {L : Value} {l : List GV} (h : LstV (fun k => k < n0) w0 L l) (d : Nat) :
    ∃ A c lb lo, L = .slice A l.length c ∧ (l ≠ [] → A = some ⟨lb, lo, none⟩) ∧ Ahead n0 w0 (itemsAt d lb 5 lo l) := by
  rcases h with ⟨rfl, rfl⟩ | ⟨b, o, c, rfl, h1, h2, hK, hE⟩
  · exact ⟨_, _, 0, 0, rfl, fun h => absurd rfl h, ⟨fun x hx => by simp [itemsAt] at hx⟩⟩
  · refine ⟨_, _, b, o, rfl, fun _ => rfl, ?_⟩
    have : ∀ (l : List GV) (o : Nat), GV.els (fun k => k < n0) w0 b 5 o l → Ahead n0 w0 (itemsAt d b 5 o l) := fun l => by
      induction l with
      | nil => exact fun o _ => ⟨fun x hx => by simp [itemsAt] at hx⟩
      | cons g r ih =>
        intro o hE
        unfold GV.els at hE
        refine ⟨fun x hx => ?_⟩
        simp only [itemsAt, List.mem_cons] at hx
        rcases hx with rfl | hx
        · obtain ⟨hb, cur, hc⟩ := hK
          exact ⟨hb, ⟨_, cur, by decide, by decide, hc⟩, hE.1⟩
        · exact (ih _ hE.2).ats x hx
    exact this l o hE
theorem ObjV.kids {n0 : Nat} {w0 : World} {O : Value} {ks : List ByteArray} {ov : List GV} (h : ObjV (fun k => k < n0) w0 O ks ov) (d : Nat) :
    ∃ A c ob oo, O = .slice A ov.length c ∧ (ov ≠ [] → A = some ⟨ob, oo, none⟩) ∧ Ahead n0 w0 (itemsAt d ob 6 (oo + 1) ov) := by
  rcases h.2 with ⟨rfl, rfl⟩ | ⟨b, o, c, rfl, h1, h2, hK, _, hE⟩
  · exact ⟨_, _, 0, 0, rfl, fun h => absurd rfl h, ⟨fun x hx => by simp [itemsAt] at hx⟩⟩
  · refine ⟨_, _, b, o, rfl, fun _ => rfl, ?_⟩
    have : ∀ (l : List GV) (o : Nat), GV.els (fun k => k < n0) w0 b 6 o l → Ahead n0 w0 (itemsAt d b 6 o l) := fun l => by
      induction l with
      | nil => exact fun o _ => ⟨fun x hx => by simp [itemsAt] at hx⟩
      | cons g r ih =>
        intro o hE
        unfold GV.els at hE
        refine ⟨fun x hx => ?_⟩
        simp only [itemsAt, List.mem_cons] at hx
        rcases hx with rfl | hx
        · obtain ⟨hb, cur, hc⟩ := hK
          exact ⟨hb, ⟨_, cur, by decide, by decide, hc⟩, hE.1⟩
        · exact (ih _ hE.2).ats x hx
    exact this ov (o + 1) hE

theorem Ahead.front {n0 : Nat} {w0 : World} {S T : List Item} (h : Ahead n0 w0 (S ++ T)) : Ahead n0 w0 S := ⟨fun x hx => h.ats x (List.mem_append.2 (.inl hx))⟩
theorem Ahead.join {n0 : Nat} {w0 : World} {S T : List Item} (h : Ahead n0 w0 S) (k : Ahead n0 w0 T) : Ahead n0 w0 (S ++ T) := ⟨fun x hx => (List.mem_append.1 hx).elim (h.ats x) (k.ats x)⟩

/-- The one that comes: its cells, now; what is in it. -/
theorem Ahead.now {n0 : Nat} {w0 W : World} {rest : List Item} {x : Item} (h : Ahead n0 w0 (rest ++ [x])) (hb : Below n0 w0 W) :
    ∃ AL cL AO cO lb lo ob oo, W.cell? ⟨x.b, x.off, none⟩ = some (.int .u8 x.g.kind) ∧ W.cell? ⟨x.b, x.off + 1, none⟩ = some (.int .i64 x.g.num) ∧ W.cell? ⟨x.b, x.off + 2, none⟩ = some (.string x.g.str) ∧
      W.cell? ⟨x.b, x.off + 3, none⟩ = some (.slice AL x.g.items.length cL) ∧ W.cell? ⟨x.b, x.off + 4, none⟩ = some (.slice AO x.g.vals.length cO) ∧
      LstV (fun k => k < n0) w0 (.slice AL x.g.items.length cL) x.g.items ∧ ObjV (fun k => k < n0) w0 (.slice AO x.g.vals.length cO) x.g.keys x.g.vals ∧
      (∀ W', Below n0 w0 W' → KidsAt W' x 84 lb lo ob oo) ∧ Ahead n0 w0 (rest ++ kids x lb lo ob oo) := by
  obtain ⟨hlt, ⟨e, cs, he, he', hw⟩, hat⟩ := h.ats x (by simp)
  obtain ⟨L, O, h0, h1, h2, h3, h4, hL, hO⟩ := GV.at_iff.1 hat
  obtain ⟨AL, cL, lb, lo, rfl, hl, hal⟩ := hL.kids (x.d + 1)
  obtain ⟨AO, cO, ob, oo, rfl, ho, hao⟩ := hO.kids (x.d + 1)
  have c : ∀ {W' : World} (_ : Below n0 w0 W') (j : Nat), W'.cell? ⟨x.b, j, none⟩ = w0.cell? ⟨x.b, j, none⟩ := fun h j => h.cell (p := ⟨x.b, j, none⟩) hlt
  refine ⟨AL, cL, AO, cO, lb, lo, ob, oo, (c hb _).trans h0, (c hb _).trans h1, (c hb _).trans h2, (c hb _).trans h3, (c hb _).trans h4, hL, hO, fun W' hW' => ⟨⟨e, cs, he, hw.below hW' hlt⟩, ⟨AL, cL, (c hW' _).trans h3, hl⟩, ⟨AO, cO, (c hW' _).trans h4, ho⟩⟩, h.front.join (hal.join hao)⟩

theorem Whole.apart {W : World} {b l : Nat} {t : TypeId} {cs : Array Value} {o : Obj} (h : Whole W b t cs) (hl : W.heap[l]? = some o) (ho : o.isCells = false) (o' : Obj) : Whole (W.putObj l o') b t cs := by
  refine h.of_eq (World.putObj_heap_other ?_)
  rintro rfl
  rw [show W.heap[b]? = _ from h] at hl
  cases hl
  cases ho
theorem below_apart {n0 l : Nat} {w0 W : World} (h : Below n0 w0 W) (hl : n0 ≤ l) {o : Obj} (hk : W.heap[l]? = some o) (o' : Obj) : Below n0 w0 (W.putObj l o') :=
  h.trans ((Below.refl n0 W).grown (grownBy_putObj' W l o') (by have := (Array.getElem?_eq_some_iff.1 hk).1; omega) (fun k e => by cases e; omega))
theorem KidsAt.apart {W : World} {x : Item} {e : TypeId} {lb lo ob oo l : Nat} {o : Obj} (h : KidsAt W x e lb lo ob oo) (hl : W.heap[l]? = some o) (ho : o.isCells = false) (o' : Obj) : KidsAt (W.putObj l o') x e lb lo ob oo := by
  obtain ⟨t, cs, hne, hw⟩ := h.whole
  have hw' := hw.apart hl ho o'
  have he : (W.putObj l o').heap[x.b]? = W.heap[x.b]? := (show _ = _ from hw').trans (show W.heap[x.b]? = _ from hw).symm
  obtain ⟨A1, c1, h1, h1'⟩ := h.lst
  obtain ⟨A2, c2, h2, h2'⟩ := h.obj
  exact ⟨⟨t, cs, hne, hw'⟩, ⟨A1, c1, (World.cell?_of_block (a := ⟨x.b, x.off + 3, none⟩) he).trans h1, h1'⟩, ⟨A2, c2, (World.cell?_of_block (a := ⟨x.b, x.off + 4, none⟩) he).trans h2, h2'⟩⟩
theorem Owned.apart {W : World} {e : TypeId} {own : List (Nat × Array Value)} {l : Nat} {o : Obj} (h : Owned e own W) (hl : W.heap[l]? = some o) (ho : o.isCells = false) (o' : Obj) : Owned e own (W.putObj l o') := fun p hp => (h p hp).apart hl ho o'
theorem pre_apart {B : Nat} {J : List Item → World → Prop} (hJ : ∀ S, Apart B (J S)) (x : Due) : Apart B (Due.Pre J x) :=
  fun W l o o' hB hl ho ho' h => ⟨hJ _ W l o o' hB hl ho ho' h.1, h.2.apart hl ho o'⟩
theorem post_apart {B : Nat} {J : List Item → World → Prop} (hJ : ∀ S, Apart B (J S)) (x : Due) : Apart B (Due.Post J x) := by
  rintro W l o o' hB hl ho ho' ⟨h, lb, lo, ob, oo, hk, hj⟩
  exact ⟨h.apart hl ho o', lb, lo, ob, oo, hk.apart hl ho o', hJ _ W l o o' hB hl ho ho' hj⟩

/-- The reader's own word: what lies ahead, and one cell of its own of which C holds. -/
structure Reads1 (n0 : Nat) (w0 : World) (bm : Nat) (tm : TypeId) (C : List Item → Value → Prop) (S : List Item) (W : World) : Prop where
  ahead : Ahead n0 w0 S
  below : Below n0 w0 W
  box : ∃ u, Whole W bm tm #[u] ∧ C S u
section
variable {n0 : Nat} {w0 : World} {bm : Nat} {tm : TypeId} {C : List Item → Value → Prop}
theorem Reads1.apart {B : Nat} (hB : n0 ≤ B) (S : List Item) : Apart B (Reads1 n0 w0 bm tm C S) := fun W l o o' hl hk ho _ h => by
  obtain ⟨u, hu, hc⟩ := h.box
  exact ⟨h.ahead, below_apart h.below (by omega) hk o', u, hu.apart hk ho o', hc⟩
theorem Reads1.but {base : Nat} (hn : n0 ≤ base) (hw : n0 ≤ w0.heap.size) (htm : tm ≠ 84) (S : List Item) (X Y : World) (h : Reads1 n0 w0 bm tm C S X) (hb : But 84 base X Y) : Reads1 n0 w0 bm tm C S Y := by
  obtain ⟨u, hu, hc⟩ := h.box
  exact ⟨h.ahead, h.below.trans (hb.below hn (by have := h.below.size; omega)), u, hb.whole hu htm, hc⟩
end

theorem Whole.ne {W : World} {b b' : Nat} {t t' : TypeId} {cs cs' : Array Value} (h : Whole W b t cs) (h' : Whole W b' t' cs') (hne : t ≠ t') : b ≠ b' := by
  rintro rfl
  have h2 : some (Obj.cells cs t (0, 0)) = some (Obj.cells cs' t' (0, 0)) := (show W.heap[b]? = _ from h).symm.trans h'
  simp at h2
  exact hne h2.2
theorem Owned.far {W : World} {own : List (Nat × Array Value)} {e t : TypeId} {bm : Nat} {cs : Array Value} (h : Owned e own W) (hw : Whole W bm t cs) (hne : t ≠ e) (j : Nat) (u : Value) : Owned e own (W.setCell ⟨bm, j, none⟩ u) :=
  fun p hp => (h p hp).far ((h p hp).ne hw (fun e' => hne e'.symm)) u
theorem Owned.alloc {W : World} {own : List (Nat × Array Value)} {e : TypeId} (h : Owned e own W) (o : Obj) : Owned e own (W.alloc o) := fun p hp => (h p hp).alloc o
theorem Owned.below {W W' : World} {own : List (Nat × Array Value)} {e : TypeId} (h : Owned e own W) (hb : Below W.heap.size W W') : Owned e own W' := fun p hp => (h p hp).below hb (h p hp).lt

theorem keeps_below {D : Nat} {W W' : World} (hb : Below W.heap.size W W') : KeepsFrom D W W' := ⟨hb.size, fun k _ _ hk _ => (hb.block k (Array.getElem?_eq_some_iff.1 hk).1).trans hk⟩

/-- A round that has read, and stored in its own cell. -/
theorem reads_next {n0 D bm : Nat} {w0 W : World} {tm : TypeId} {C : List Item → Value → Prop} {rest : List Item} {x : Item} {own : List (Nat × Array Value)} {u u' : Value} (hbm : n0 ≤ bm) (htm : tm ≠ 84)
    (hA : Ahead n0 w0 (rest ++ [x])) (hB : Below n0 w0 W) (hu : Whole W bm tm #[u]) (hO : Owned 84 own W) (hC : ∀ lb lo ob oo, C (rest ++ kids x lb lo ob oo) u') :
    KeepsFrom D W (W.setCell ⟨bm, 0, none⟩ u') ∧ Due.Post (Reads1 n0 w0 bm tm C) (x, rest, own) (W.setCell ⟨bm, 0, none⟩ u') := by
  obtain ⟨_, _, _, _, lb, lo, ob, oo, _, _, _, _, _, _, _, hk, ha⟩ := hA.now hB
  have hb' : Below n0 w0 (W.setCell ⟨bm, 0, none⟩ u') := hB.setCell hbm _
  exact ⟨(KeepsOthers.setCell _ _ _).from _, hO.far hu htm 0 u', lb, lo, ob, oo, hk _ hb', ⟨ha, hb', u', hu.put 0 u', hC lb lo ob oo⟩⟩
/-- A round that has read. -/
theorem reads_stay {n0 D bm : Nat} {w0 W W' : World} {tm : TypeId} {C : List Item → Value → Prop} {rest : List Item} {x : Item} {own : List (Nat × Array Value)} {u : Value}
    (hA : Ahead n0 w0 (rest ++ [x])) (hB : Below n0 w0 W) (hn : n0 ≤ W.heap.size) (hu : Whole W bm tm #[u]) (hO : Owned 84 own W) (hb : Below W.heap.size W W') (hk : KeepsFrom D W W') (hC : ∀ lb lo ob oo, C (rest ++ kids x lb lo ob oo) u) :
    KeepsFrom D W W' ∧ Due.Post (Reads1 n0 w0 bm tm C) (x, rest, own) W' := by
  have hb' : Below n0 w0 W' := hB.trans (hb.mono hn)
  obtain ⟨_, _, _, _, lb, lo, ob, oo, _, _, _, _, _, _, _, hk', ha⟩ := hA.now hb'
  exact ⟨hk, hO.below hb, lb, lo, ob, oo, hk' _ hb', ⟨ha, hb', u, hu.below hb hu.lt, hC lb lo ob oo⟩⟩

theorem call_all (p : Option Addr) (w : World) : Calls Tryd.prog 40 #[.pointer p] w fun e w' => e = .returned (.func (.func 56) #[] #[.pointer (some ⟨w.heap.size, 0, none⟩)]) ∧ w.alloc (.cells #[.pointer p] 62) = w' := by
  go_enter Tryd.func40, Tryd.ntmps40
  go_wp2
  go_ret
  exact ⟨rfl, rfl⟩

def dmaxs : List Item → Nat
  | [] => 0
  | x :: r => max (x.d + x.g.deep) (dmaxs r)
theorem dmaxs_append (a b : List Item) : dmaxs (a ++ b) = max (dmaxs a) (dmaxs b) := by
  induction a with
  | nil => simp [dmaxs]
  | cons x r ih => simp [dmaxs, ih, Nat.max_assoc]
theorem dmaxs_items {d b step : Nat} : ∀ {off : Nat} {l : List GV}, max d (dmaxs (itemsAt (d + 1) b step off l)) = d + GV.deeps l
  | _, [] => by simp [itemsAt, dmaxs, GV.deeps]
  | off, g :: r => by
    have := dmaxs_items (d := d) (b := b) (step := step) (off := off + step) (l := r)
    simp only [itemsAt, dmaxs, GV.deeps]
    omega
theorem dmaxs_kids (x : Item) (lb lo ob oo : Nat) : max x.d (dmaxs (kids x lb lo ob oo)) = x.d + x.g.deep := by
  have h1 := dmaxs_items (d := x.d) (b := lb) (step := 5) (off := lo) (l := x.g.items)
  have h2 := dmaxs_items (d := x.d) (b := ob) (step := 6) (off := oo + 1) (l := x.g.vals)
  have h3 : x.g.deep = max (GV.deeps x.g.items) (GV.deeps x.g.vals) := by cases x.g with | mk k n s l ks ov => simp only [GV.deep, GV.items, GV.vals]
  unfold kids
  rw [dmaxs_append, h3]
  omega

/-- Where the walk over all that is in v begins: v lies in the block at w's end. -/
theorem ahead_start {ok : Nat → Prop} {w : World} {g : GV} {L O : Value} (hL : LstV ok w L g.items) (hO : ObjV ok w O g.keys g.vals) :
    Ahead (w.heap.size + 1) (w.alloc (.cells #[.int .u8 g.kind, .int .i64 g.num, .string g.str, L, O] 28)) [⟨0, w.heap.size, 0, g⟩] := by
  have hF : From ok w (w.alloc (.cells #[.int .u8 g.kind, .int .i64 g.num, .string g.str, L, O] 28)) := fun k _ hk => Below.heap_alloc _ _ _ hk
  have hw := Whole.new w 28 #[.int .u8 g.kind, .int .i64 g.num, .string g.str, L, O]
  refine ⟨fun x hx => ?_⟩
  simp only [List.mem_singleton] at hx
  subst hx
  refine ⟨by simp, ⟨_, _, by decide, by decide, hw⟩, GV.at_iff.2 ⟨L, O, (hw.cell 0).trans rfl, (hw.cell 1).trans rfl, (hw.cell 2).trans rfl, (hw.cell 3).trans rfl, (hw.cell 4).trans rfl, hL.keep hF (fun k _ hk => by omega), hO.keep hF (fun k _ hk => by omega)⟩⟩
end Go.Proofs.YtjknicljbmakeaaDoor
