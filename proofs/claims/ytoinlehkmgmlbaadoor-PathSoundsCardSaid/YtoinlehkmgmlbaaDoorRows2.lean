/- Rows of cells that are values: what an append of one value makes of them. Blocks that are known whole. -/
import Derived.Test.YtoinlehkmgmlbaaDoorGhost
import Derived.Maps.AppendAt
namespace Go.Proofs.YtoinlehkmgmlbaaDoor
open Go Go.RowKit

/-- Block b is the cells cs of type t, and nothing else. -/
def Whole (W : World) (b : Nat) (t : TypeId) (cs : Array Value) : Prop := W.heap[b]? = some (.cells cs t (0, 0))
section
variable {W W' : World} {b : Nat} {t : TypeId} {cs : Array Value}
theorem Whole.lt (h : Whole W b t cs) : b < W.heap.size := (Array.getElem?_eq_some_iff.1 (show W.heap[b]? = _ from h)).1
theorem Whole.cell (h : Whole W b t cs) (i : Nat) : W.cell? ⟨b, i, none⟩ = cs[i]? := by unfold Whole at h; simp [World.cell?, h]
theorem Whole.frozen (h : Whole W b t cs) (i : Nat) : W.frozen? ⟨b, i, none⟩ = false := by unfold Whole at h; simp [World.frozen?, h]
theorem Whole.of_eq (h : Whole W b t cs) (e : W'.heap[b]? = W.heap[b]?) : Whole W' b t cs := Eq.trans e h
theorem Whole.below {B : Nat} (h : Whole W b t cs) (hb : Below B W W') (hB : b < B) : Whole W' b t cs := h.of_eq (hb.block b hB)
theorem Whole.grown {row : Option Nat} (h : Whole W b t cs) (hb : W.grownBy W' row) (hr : some b ≠ row) : Whole W' b t cs := h.of_eq (hb.block b h.lt hr)
theorem Whole.alloc (h : Whole W b t cs) (o : Obj) : Whole (W.alloc o) b t cs := h.of_eq (Below.heap_alloc W o b h.lt)
theorem Whole.new (W : World) (t : TypeId) (cs : Array Value) : Whole (W.alloc (.cells cs t)) W.heap.size t cs := heap_alloc_new W _
theorem Whole.put (h : Whole W b t cs) (i : Nat) (u : Value) : Whole (W.setCell ⟨b, i, none⟩ u) b t (cs.setIfInBounds i u) := by
  unfold Whole at h ⊢
  simp [World.setCell, Array.getElem?_modify, h]
theorem Whole.far (h : Whole W b t cs) {p : Addr} (hp : b ≠ p.block) (u : Value) : Whole (W.setCell p u) b t cs := h.of_eq (Below.heap_setCell W p u b hp)
theorem Whole.kind {ok : Nat → Prop} (h : Whole W b t cs) (hk : ok b) : Kind W ok b t := ⟨hk, cs, h⟩
end

theorem cell_alloc {W : World} {a : Addr} {v : Value} (o : Obj) (h : W.cell? a = some v) : (W.alloc o).cell? a = some v :=
  (World.cell?_of_block (Below.heap_alloc W o a.block (World.block_lt_of_cell? W a h))).trans h
theorem frozen_alloc {W : World} {a : Addr} {v : Value} (o : Obj) (h : W.cell? a = some v) (hf : W.frozen? a = false) : (W.alloc o).frozen? a = false :=
  (World.frozen?_of_block (Below.heap_alloc W o a.block (World.block_lt_of_cell? W a h))).trans hf

/-- The cells of a value. -/
def chunk (g : GV) (L O : Value) : List Value := [.int .u8 g.kind, .int .i64 g.num, .string g.str, L, O]

/-- The cells xs are the values l. -/
def RowL (ok : Nat → Prop) (W : World) : List GV → List Value → Prop
  | [], xs => xs = []
  | g :: r, xs => ∃ L O ys, xs = chunk g L O ++ ys ∧ LstV ok W L g.items ∧ ObjV ok W O g.keys g.vals ∧ RowL ok W r ys
/-- The cells xs are the fields ks, ov. -/
def RowO (ok : Nat → Prop) (W : World) : List ByteArray → List GV → List Value → Prop
  | [], [], xs => xs = []
  | k :: ks, g :: r, xs => ∃ L O ys, xs = .string k :: chunk g L O ++ ys ∧ LstV ok W L g.items ∧ ObjV ok W O g.keys g.vals ∧ RowO ok W ks r ys
  | _, _, _ => False

section
variable {ok ok' : Nat → Prop} {W W' : World}
theorem RowL.keep (H : From ok W W') (hs : ∀ k, ok k → k < W.heap.size → ok' k) : ∀ {l : List GV} {xs : List Value}, RowL ok W l xs → RowL ok' W' l xs
  | [], _, h => h
  | _ :: _, _, ⟨L, O, ys, e, hL, hO, hr⟩ => ⟨L, O, ys, e, hL.keep H hs, hO.keep H hs, RowL.keep H hs hr⟩
theorem RowO.keep (H : From ok W W') (hs : ∀ k, ok k → k < W.heap.size → ok' k) : ∀ {ks : List ByteArray} {ov : List GV} {xs : List Value}, RowO ok W ks ov xs → RowO ok' W' ks ov xs
  | [], [], _, h => h
  | _ :: _, _ :: _, _, ⟨L, O, ys, e, hL, hO, hr⟩ => ⟨L, O, ys, e, hL.keep H hs, hO.keep H hs, RowO.keep H hs hr⟩
  | [], _ :: _, _, h => h.elim
  | _ :: _, [], _, h => h.elim
theorem RowL.snoc {g : GV} {L O : Value} (hL : LstV ok W L g.items) (hO : ObjV ok W O g.keys g.vals) : ∀ {l : List GV} {xs : List Value}, RowL ok W l xs → RowL ok W (l ++ [g]) (xs ++ chunk g L O)
  | [], _, h => ⟨L, O, [], by rw [show _ = ([] : List Value) from h]; simp, hL, hO, rfl⟩
  | _ :: _, _, ⟨L', O', ys, e, hL', hO', hr⟩ => ⟨L', O', ys ++ chunk g L O, by rw [e, List.append_assoc], hL', hO', RowL.snoc hL hO hr⟩
theorem RowO.snoc {k : ByteArray} {g : GV} {L O : Value} (hL : LstV ok W L g.items) (hO : ObjV ok W O g.keys g.vals) : ∀ {ks : List ByteArray} {ov : List GV} {xs : List Value}, RowO ok W ks ov xs → RowO ok W (ks ++ [k]) (ov ++ [g]) (xs ++ (.string k :: chunk g L O))
  | [], [], _, h => ⟨L, O, [], by rw [show _ = ([] : List Value) from h]; simp, hL, hO, rfl⟩
  | _ :: _, _ :: _, _, ⟨L', O', ys, e, hL', hO', hr⟩ => ⟨L', O', ys ++ (.string k :: chunk g L O), by rw [e]; simp, hL', hO', RowO.snoc hL hO hr⟩
  | [], _ :: _, _, h => h.elim
  | _ :: _, [], _, h => h.elim
theorem RowO.len : ∀ {ks : List ByteArray} {ov : List GV} {xs : List Value}, RowO ok W ks ov xs → ks.length = ov.length
  | [], [], _, _ => rfl
  | _ :: _, _ :: _, _, ⟨_, _, _, _, _, _, hr⟩ => by simp [RowO.len hr]
  | [], _ :: _, _, h => h.elim
  | _ :: _, [], _, h => h.elim
theorem RowL.els {b : Nat} : ∀ {l : List GV} {xs : List Value} {off : Nat}, RowL ok W l xs → (∀ (j : Nat) (u : Value), xs[j]? = some u → W.cell? ⟨b, off + j, none⟩ = some u) → GV.els ok W b 5 off l
  | [], _, _, _, _ => by unfold GV.els; trivial
  | g :: r, _, off, ⟨L, O, ys, e, hL, hO, hr⟩, hc => by
    subst e
    unfold GV.els
    refine ⟨GV.at_iff.2 ⟨L, O, hc 0 _ rfl, hc 1 _ rfl, hc 2 _ rfl, hc 3 _ rfl, hc 4 _ rfl, hL, hO⟩, RowL.els hr fun j u hj => ?_⟩
    have := hc (5 + j) u (by rw [List.getElem?_append_right (by simp [chunk])]; simpa [chunk] using hj)
    rwa [← Nat.add_assoc] at this
theorem RowO.els {b : Nat} : ∀ {ks : List ByteArray} {ov : List GV} {xs : List Value} {off : Nat}, RowO ok W ks ov xs → (∀ (j : Nat) (u : Value), xs[j]? = some u → W.cell? ⟨b, off + j, none⟩ = some u) → KeysAt W b off ks ∧ GV.els ok W b 6 (off + 1) ov
  | [], [], _, _, _, _ => by unfold GV.els; exact ⟨trivial, trivial⟩
  | k :: ks, g :: r, _, off, ⟨L, O, ys, e, hL, hO, hr⟩, hc => by
    subst e
    have hn := RowO.els (off := off + 6) hr (fun j u hj => by
      have := hc (6 + j) u (by rw [List.getElem?_append_right (by simp [chunk])]; simpa [chunk] using hj)
      rwa [← Nat.add_assoc] at this)
    unfold GV.els
    refine ⟨⟨hc 0 _ rfl, hn.1⟩, GV.at_iff.2 ⟨L, O, hc 1 _ rfl, hc 2 _ rfl, hc 3 _ rfl, hc 4 _ rfl, hc 5 _ rfl, hL, hO⟩, ?_⟩
    rw [show off + 1 + 6 = off + 6 + 1 by omega]
    exact hn.2
  | [], _ :: _, _, _, h, _ => h.elim
  | _ :: _, [], _, _, h, _ => h.elim
end

/-- A row of the call's own is a slice of values. -/
theorem LstV.of_own {ok : Nat → Prop} {W : World} {base : Nat} {v : Value} {l : List GV} {xs : List Value} (h : W.ownsRow base 29 5 v l.length xs) (hr : RowL ok W l xs) (hok : ∀ k, v.ownBlock = some k → ok k) : LstV ok W v l := by
  rcases h.2 with ⟨rfl, hn⟩ | ⟨g, cap, cur, rfl, hb, hg, h1, h2, h3, h4⟩
  · exact .inl ⟨List.eq_nil_of_length_eq_zero hn, rfl⟩
  · refine .inr ⟨g, 0, cap, rfl, h1, h2, ⟨hok g rfl, cur, hg⟩, hr.els fun j u hj => ?_⟩
    have := h.cells (g := g) rfl j u hj
    simpa [Addr.add] using (show W.cell? ⟨g, 0 + j, none⟩ = some u by by_cases e : j = 0 <;> simpa [Addr.add, e] using this)
theorem ObjV.of_own {ok : Nat → Prop} {W : World} {base : Nat} {v : Value} {ks : List ByteArray} {ov : List GV} {xs : List Value} (h : W.ownsRow base 52 6 v ov.length xs) (hr : RowO ok W ks ov xs) (hok : ∀ k, v.ownBlock = some k → ok k) : ObjV ok W v ks ov := by
  refine ⟨hr.len, ?_⟩
  rcases h.2 with ⟨rfl, hn⟩ | ⟨g, cap, cur, rfl, hb, hg, h1, h2, h3, h4⟩
  · exact .inl ⟨List.eq_nil_of_length_eq_zero hn, rfl⟩
  · have hc : ∀ (j : Nat) (u : Value), xs[j]? = some u → W.cell? ⟨g, 0 + j, none⟩ = some u := fun j u hj => by
      have := h.cells (g := g) rfl j u hj
      by_cases e : j = 0 <;> simpa [Addr.add, e] using this
    have := hr.els hc
    exact .inr ⟨g, 0, cap, rfl, h1, h2, ⟨hok g rfl, cur, hg⟩, this.1, this.2⟩

theorem infoVal : (Tryd.prog.info? 29).map (fun i => (i.zero, i.size, i.bytes)) = some (some (.agg #[.int .u8 0, .int .i64 0, .string ⟨#[]⟩, .slice none 0 0, .slice none 0 0]), 5, 80) := by kernel_rfl
theorem infoField : (Tryd.prog.info? 52).map (fun i => (i.zero, i.size, i.bytes)) = some (some (.agg #[.string ⟨#[]⟩, .int .u8 0, .int .i64 0, .string ⟨#[]⟩, .slice none 0 0, .slice none 0 0]), 6, 96) := by kernel_rfl

theorem row_cells (W : World) (cs : List Value) (t : TypeId) : ∀ (j : Nat) (u : Value), cs[j]? = some u → (W.alloc (.cells cs.toArray t)).cell? ((⟨W.heap.size, 0, none⟩ : Addr).add j) = some u := by
  intro j u hj
  have h := Whole.new W t cs.toArray
  have : ((⟨W.heap.size, 0, none⟩ : Addr).add j) = ⟨W.heap.size, j, none⟩ := by unfold Addr.add; split <;> simp_all
  rw [this, h.cell, List.getElem?_toArray, hj]
theorem row_cells' (W : World) (n : Nat) (hn : W.heap.size = n) (cs : List Value) (t : TypeId) : ∀ (j : Nat) (u : Value), cs[j]? = some u → (W.alloc (.cells cs.toArray t)).cell? ((⟨n, 0, none⟩ : Addr).add j) = some u := by
  subst hn; exact row_cells W cs t

theorem own_lt {W : World} {base : Nat} {e : TypeId} {size n : Nat} {v : Value} {xs : List Value} (h : W.ownsRow base e size v n xs) {k : Nat} (hk : v.ownBlock = some k) : base ≤ k ∧ k < W.heap.size := h.lt k hk

theorem own_apart {W : World} {base base' : Nat} {e e' : TypeId} {size size' n n' : Nat} {v v' : Value} {xs xs' : List Value} (h : W.ownsRow base e size v n xs) (h' : W.ownsRow base' e' size' v' n' xs') (hne : e ≠ e') : v.ownBlock = none ∨ v.ownBlock ≠ v'.ownBlock := by
  rcases h.2 with ⟨rfl, _⟩ | ⟨g, cap, cur, rfl, _, hg, _⟩
  · exact .inl rfl
  · refine .inr fun he => ?_
    rcases h'.2 with ⟨rfl, _⟩ | ⟨g', cap', cur', rfl, _, hg', _⟩
    · simp [Value.ownBlock] at he
    · simp [Value.ownBlock] at he
      subst he
      rw [hg] at hg'
      simp at hg'
      exact hne hg'.2

theorem own_set {W : World} {base : Nat} {e : TypeId} {size n : Nat} {v : Value} {xs : List Value} (h : W.ownsRow base e size v n xs) {p : Addr} (hp : v.ownBlock ≠ some p.block) (x : Value) : (W.setCell p x).ownsRow base e size v n xs :=
  h.kept (row := some p.block) ⟨rfl, rfl, rfl, by simp [World.setCell], fun k _ hk => Below.heap_setCell W p x k (fun e => hk (by rw [e]))⟩ (.inr hp)

theorem own_below {W W' : World} {base : Nat} {e : TypeId} {size n : Nat} {v : Value} {xs : List Value} (h : W.ownsRow base e size v n xs) (hb : Below W.heap.size W W') : W'.ownsRow base e size v n xs :=
  h.kept (row := none) ⟨hb.os, hb.tape, hb.output, hb.size, fun k hk _ => hb.block k hk⟩ (by rcases hv : v.ownBlock with _ | k <;> simp)

theorem own_form {W : World} {base : Nat} {e : TypeId} {size n : Nat} {v : Value} {xs : List Value} (h : W.ownsRow base e size v n xs) : ∃ A c, v = .slice A n c := by
  rcases h.2 with ⟨rfl, rfl⟩ | ⟨g, cap, cur, rfl, _⟩
  · exact ⟨_, _, rfl⟩
  · exact ⟨_, _, rfl⟩

theorem lst_form {ok : Nat → Prop} {W : World} {L : Value} {l : List GV} (h : LstV ok W L l) : ∃ A c, L = .slice A l.length c := by
  rcases h with ⟨rfl, rfl⟩ | ⟨_, _, _, rfl, _⟩
  · exact ⟨_, _, rfl⟩
  · exact ⟨_, _, rfl⟩

theorem obj_form {ok : Nat → Prop} {W : World} {O : Value} {ks : List ByteArray} {ov : List GV} (h : ObjV ok W O ks ov) : ∃ A c, O = .slice A ov.length c := by
  rcases h.2 with ⟨rfl, rfl⟩ | ⟨_, _, _, rfl, _⟩
  · exact ⟨_, _, rfl⟩
  · exact ⟨_, _, rfl⟩

theorem own_same {W W' : World} {base : Nat} {e : TypeId} {size n : Nat} {v : Value} {xs : List Value} (h : W.ownsRow base e size v n xs) (hb : ∀ k, v.ownBlock = some k → W'.heap[k]? = W.heap[k]?) : W'.ownsRow base e size v n xs := by
  refine ⟨h.1, ?_⟩
  rcases h.2 with hn | ⟨g, cap, cur, rfl, hbg, hg, rest⟩
  · exact .inl hn
  · exact .inr ⟨g, cap, cur, rfl, hbg, (hb g rfl).trans hg, rest⟩

/-- A struct of five cells: what a walk reads of it, and that it may write there; now, and behind one block more. -/
structure Five (W : World) (b : Nat) (a0 a1 a2 a3 a4 : Value) : Prop where
  c0 : W.cell? ⟨b, 0, none⟩ = some a0
  c1 : W.cell? ⟨b, 1, none⟩ = some a1
  c2 : W.cell? ⟨b, 2, none⟩ = some a2
  c3 : W.cell? ⟨b, 3, none⟩ = some a3
  c4 : W.cell? ⟨b, 4, none⟩ = some a4
  f0 : W.frozen? ⟨b, 0, none⟩ = false
  f1 : W.frozen? ⟨b, 1, none⟩ = false
  f2 : W.frozen? ⟨b, 2, none⟩ = false
  f3 : W.frozen? ⟨b, 3, none⟩ = false
  f4 : W.frozen? ⟨b, 4, none⟩ = false
theorem Whole.five {W : World} {b : Nat} {t : TypeId} {a0 a1 a2 a3 a4 : Value} (h : Whole W b t #[a0, a1, a2, a3, a4]) : Five W b a0 a1 a2 a3 a4 :=
  ⟨(h.cell 0).trans rfl, (h.cell 1).trans rfl, (h.cell 2).trans rfl, (h.cell 3).trans rfl, (h.cell 4).trans rfl, h.frozen 0, h.frozen 1, h.frozen 2, h.frozen 3, h.frozen 4⟩

/-- Five stores into one block. -/
def put5 (W : World) (b : Nat) (a0 a1 a2 a3 a4 : Value) : World :=
  ((((W.setCell ⟨b, 0, none⟩ a0).setCell ⟨b, 1, none⟩ a1).setCell ⟨b, 2, none⟩ a2).setCell ⟨b, 3, none⟩ a3).setCell ⟨b, 4, none⟩ a4
theorem put5_block (W : World) (b : Nat) (a0 a1 a2 a3 a4 : Value) (k : Nat) (h : k ≠ b) : (put5 W b a0 a1 a2 a3 a4).heap[k]? = W.heap[k]? := by
  unfold put5
  rw [Below.heap_setCell _ _ _ _ h, Below.heap_setCell _ _ _ _ h, Below.heap_setCell _ _ _ _ h, Below.heap_setCell _ _ _ _ h, Below.heap_setCell _ _ _ _ h]
theorem put5_below {B : Nat} {w W : World} (h : Below B w W) {b : Nat} (hb : B ≤ b) (a0 a1 a2 a3 a4 : Value) : Below B w (put5 W b a0 a1 a2 a3 a4) :=
  ((((h.setCell hb _).setCell hb _).setCell hb _).setCell hb _).setCell hb _
theorem GV.val_put5 {B : Nat} {W : World} {v : Value} {g : GV} (h : g.val (fun k => B + 1 ≤ k) W v) (o : Obj) (a0 a1 a2 a3 a4 : Value) : g.val (fun k => B ≤ k) (put5 (W.alloc o) B a0 a1 a2 a3 a4) v :=
  GV.val_keep (fun k hk hlt => by rw [put5_block _ _ _ _ _ _ _ _ (by omega), Below.heap_alloc _ _ _ hlt]) (fun k hk _ => by omega) h
end Go.Proofs.YtoinlehkmgmlbaaDoor
