/- What holds between the rounds of raw's loop, and how a round carries it on; nothing is walked here. -/
import Derived.Test.YtmmjkhkcffgeiaaDoorBaseA
import Derived.WalkKit
import Derived.WalkSpells
import Derived.WalkLawsBesides
import Derived.Lib.Hide
namespace Go.Proofs.YtmmjkhkcffgeiaaDoor
open Go Go.RowKit

def RawPost (ts : List GTok) (w : World) (e : Ending) (w' : World) : Prop :=
  ∃ (g : GV) (L O : Value) (n : Nat), e = .returned (.tuple #[.agg #[.int .u8 g.kind, .int .i64 g.num, .string g.str, L, O], .int .i64 n]) ∧
    LstV (fun k => w.heap.size ≤ k) w' L g.items ∧ ObjV (fun k => w.heap.size ≤ k) w' O g.keys g.vals ∧ g.PosN ∧
    n ≤ ts.length ∧ (ts ≠ [] → 1 ≤ n ∧ g.weight + g.str.size ≤ 2 * tot (ts.take n)) ∧ (ts = [] → n = 0 ∧ g.weight ≤ 1) ∧ Below w.heap.size w w'

structure RawInv (w : World) (t : GTok) (ts : List GTok) (u : Nat) (wr : World) : Prop where
  below : Below w.heap.size w wr
  tok : Whole wr (w.heap.size + 1) 58 #[.int .u8 t.k, .int .i64 t.n, .string t.s, .int .u8 t.m]
  res : ∃ cs, cs.size = 5 ∧ Whole wr w.heap.size 31 cs
  val : ∃ (l : List GV) (ks : List ByteArray) (ov : List GV) (vL vO : Value) (xs ys : List Value),
    Whole wr (w.heap.size + 1 + 1) 31 #[.int .u8 t.k, .int .i64 t.n, .string t.s, vL, vO] ∧
    wr.ownsRow (w.heap.size + 3) 31 5 vL l.length xs ∧ wr.ownsRow (w.heap.size + 3) 45 6 vO ov.length ys ∧
    RowL (fun k => w.heap.size + 3 ≤ k ∧ vL.ownBlock ≠ some k ∧ vO.ownBlock ≠ some k) wr l xs ∧
    RowO (fun k => w.heap.size + 3 ≤ k ∧ vL.ownBlock ≠ some k ∧ vO.ownBlock ≠ some k) wr ks ov ys ∧
    1 + t.s.size + GV.weights l + (ks.map (·.size)).sum + GV.weights ov + t.s.size ≤ 2 * tot (ts.take u) ∧ l.length ≤ u ∧ ov.length ≤ u ∧ 0 ≤ t.k ∧ (∀ x ∈ l, GV.PosN x) ∧ (∀ x ∈ ov, GV.PosN x)


section
variable {w wr : World} {t : GTok} {ts : List GTok} {u : Nat}





theorem RawInv.step (h : RawInv w t ts u wr) {W : World} (hb : Below wr.heap.size wr W) : RawInv w t ts u W := by
  obtain ⟨hbel, htok, ⟨cs, hcs, hres⟩, l, ks, ov, vL, vO, xs, ys, hval, hownL, hownO, hrL, hrO, hwt, hll, hlo, hps⟩ := h
  exact ⟨hbel.trans (hb.mono hbel.size), htok.below hb htok.lt, ⟨cs, hcs, hres.below hb hres.lt⟩, l, ks, ov, vL, vO, xs, ys, hval.below hb hval.lt, own_below hownL hb, own_below hownO hb,
    hrL.keep (.of_below hb) (fun _ h _ => h), hrO.keep (.of_below hb) (fun _ h _ => h), hwt, hll, hlo, hps⟩

/-- The way out: what stands in the value's block is stored in the result's. -/
theorem RawInv.out (h : RawInv w t ts u wr) (h1 : 1 ≤ u) (h2 : u ≤ ts.length) : ∃ (vL vO : Value), Whole wr (w.heap.size + 1 + 1) 31 #[.int .u8 t.k, .int .i64 t.n, .string t.s, vL, vO] ∧
    ∀ W', (∀ k, w.heap.size < k → k < wr.heap.size → W'.heap[k]? = wr.heap[k]?) → Below w.heap.size w W' → RawPost ts w (.returned (.tuple #[.agg #[.int .u8 t.k, .int .i64 t.n, .string t.s, vL, vO], .int .i64 u])) W' := by
  obtain ⟨hbel, htok, ⟨cs, hcs, hres⟩, l, ks, ov, vL, vO, xs, ys, hval, hownL, hownO, hrL, hrO, hwt, hll, hlo, hps⟩ := h
  refine ⟨vL, vO, hval, fun W' hk hB => ?_⟩
  have hF : From (fun k => w.heap.size + 3 ≤ k) wr W' := fun k h3 hlt => hk k (by omega) hlt
  have e1 : LstV (fun k => w.heap.size ≤ k) W' vL l :=
    LstV.keep (ok := fun k => w.heap.size + 3 ≤ k) hF (fun k h3 _ => by omega) (LstV.of_own hownL (hrL.keep (From.refl _ _) (fun k h3 _ => h3.1)) (fun k hk => (hownL.lt k hk).1))
  have e2 : ObjV (fun k => w.heap.size ≤ k) W' vO ks ov :=
    ObjV.keep (ok := fun k => w.heap.size + 3 ≤ k) hF (fun k h3 _ => by omega) (ObjV.of_own hownO (hrO.keep (From.refl _ _) (fun k h3 _ => h3.1)) (fun k hk => (hownO.lt k hk).1))
  exact ⟨.mk t.k t.n t.s l ks ov, vL, vO, u, rfl, e1, e2, (posN_iff _).2 ⟨⟨hps.1, t.hn⟩, hps.2⟩, h2, fun _ => ⟨h1, by simp only [GV.weight, GV.str]; omega⟩, fun e => by subst e; simp at h2; omega, hB⟩

theorem weights_snoc (l : List GV) (g : GV) : GV.weights (l ++ [g]) = GV.weights l + g.weight := by
  induction l with
  | nil => simp [GV.weights]
  | cons x r ih => simp [GV.weights, ih]; omega
theorem tot_append (a b : List GTok) : tot (a ++ b) = tot a + tot b := by
  induction a with
  | nil => simp [tot]
  | cons x r ih => simp [tot, ih]; omega
theorem tot_more (ts : List GTok) (u n : Nat) : tot (ts.take (u + n)) = tot (ts.take u) + tot ((ts.drop u).take n) := by
  rw [← tot_append, ← List.take_add]

/-- The blocks of what a call within the round made. -/
theorem fresh_ok {W : World} {vL vO : Value} {nL nO : Nat} {xs ys : List Value} {base : Nat} (hbase : base ≤ W.heap.size) (hL : W.ownsRow base 31 5 vL nL xs) (hO : W.ownsRow base 45 6 vO nO ys) {k : Nat} (hk : W.heap.size ≤ k) :
    base ≤ k ∧ vL.ownBlock ≠ some k ∧ vO.ownBlock ≠ some k :=
  ⟨by omega, fun e => by have := (hL.lt k e).2; omega, fun e => by have := (hO.lt k e).2; omega⟩

/-- What stands of the invariant apart from its existence: the pieces by name. -/
structure RawPs (w : World) (t : GTok) (ts : List GTok) (u : Nat) (l : List GV) (ks : List ByteArray) (ov : List GV) (vL vO : Value) (xs ys : List Value) (wr : World) : Prop where
  below : Below w.heap.size w wr
  tok : Whole wr (w.heap.size + 1) 58 #[.int .u8 t.k, .int .i64 t.n, .string t.s, .int .u8 t.m]
  res : ∃ cs, cs.size = 5 ∧ Whole wr w.heap.size 31 cs
  val : Whole wr (w.heap.size + 1 + 1) 31 #[.int .u8 t.k, .int .i64 t.n, .string t.s, vL, vO]
  ownL : wr.ownsRow (w.heap.size + 3) 31 5 vL l.length xs
  ownO : wr.ownsRow (w.heap.size + 3) 45 6 vO ov.length ys
  rowL : RowL (fun k => w.heap.size + 3 ≤ k ∧ vL.ownBlock ≠ some k ∧ vO.ownBlock ≠ some k) wr l xs
  rowO : RowO (fun k => w.heap.size + 3 ≤ k ∧ vL.ownBlock ≠ some k ∧ vO.ownBlock ≠ some k) wr ks ov ys
  weigh : 1 + t.s.size + GV.weights l + (ks.map (·.size)).sum + GV.weights ov + t.s.size ≤ 2 * tot (ts.take u)
  lenL : l.length ≤ u
  lenO : ov.length ≤ u
  pos : 0 ≤ t.k ∧ (∀ x ∈ l, GV.PosN x) ∧ (∀ x ∈ ov, GV.PosN x)

theorem RawPs.inv {l : List GV} {ks : List ByteArray} {ov : List GV} {vL vO : Value} {xs ys : List Value} (h : RawPs w t ts u l ks ov vL vO xs ys wr) : RawInv w t ts u wr :=
  ⟨h.below, h.tok, h.res, l, ks, ov, vL, vO, xs, ys, h.val, h.ownL, h.ownO, h.rowL, h.rowO, h.weigh, h.lenL, h.lenO, h.pos⟩
theorem RawInv.ps (h : RawInv w t ts u wr) : ∃ l ks ov vL vO xs ys, RawPs w t ts u l ks ov vL vO xs ys wr := by
  obtain ⟨hbel, htok, hres, l, ks, ov, vL, vO, xs, ys, hval, hownL, hownO, hrL, hrO, hwt, hll, hlo, hps⟩ := h
  exact ⟨l, ks, ov, vL, vO, xs, ys, ⟨hbel, htok, hres, hval, hownL, hownO, hrL, hrO, hwt, hll, hlo, hps⟩⟩
theorem RawPs.step {l : List GV} {ks : List ByteArray} {ov : List GV} {vL vO : Value} {xs ys : List Value} (h : RawPs w t ts u l ks ov vL vO xs ys wr) {W : World} (hb : Below wr.heap.size wr W) : RawPs w t ts u l ks ov vL vO xs ys W :=
  ⟨h.below.trans (hb.mono h.below.size), h.tok.below hb h.tok.lt, (by obtain ⟨cs, hcs, hr⟩ := h.res; exact ⟨cs, hcs, hr.below hb hr.lt⟩), h.val.below hb h.val.lt, own_below h.ownL hb, own_below h.ownO hb,
    h.rowL.keep (.of_below hb) (fun _ h _ => h), h.rowO.keep (.of_below hb) (fun _ h _ => h), h.weigh, h.lenL, h.lenO, h.pos⟩

/-- The row block of an owned value after an append: where it was, or new. -/
theorem at_ne {W : World} {v v' : Value} (hat : v'.ownBlock = v.ownBlock ∨ v'.ownBlock = some W.heap.size) {k : Nat} (h1 : v.ownBlock ≠ some k) (h2 : k < W.heap.size) : v'.ownBlock ≠ some k := by
  rcases hat with e | e
  · rwa [e]
  · rw [e]; intro h; cases h; omega

theorem RawPs.addL {l : List GV} {ks : List ByteArray} {ov : List GV} {vL vO : Value} {xs ys : List Value} (h : RawPs w t ts u l ks ov vL vO xs ys wr) {g : GV} {L O : Value} {n : Nat} {W3 : World} {v' : Value}
    (hL : LstV (fun k => w.heap.size + 3 ≤ k ∧ vL.ownBlock ≠ some k ∧ vO.ownBlock ≠ some k) wr L g.items) (hO : ObjV (fun k => w.heap.size + 3 ≤ k ∧ vL.ownBlock ≠ some k ∧ vO.ownBlock ≠ some k) wr O g.keys g.vals)
    (hown : W3.ownsRow (w.heap.size + 3) 31 5 v' (l.length + 1) (xs ++ chunk g L O)) (hgrow : wr.grownBy W3 vL.ownBlock) (hat : v'.ownBlock = vL.ownBlock ∨ v'.ownBlock = some wr.heap.size)
    (hn : 1 ≤ n) (hp : g.PosN) (hwt : g.weight + g.str.size ≤ 2 * tot ((ts.drop u).take n)) : RawInv w t ts (u + n) (W3.setCell ⟨w.heap.size + 1 + 1, 3, none⟩ v') := by
  have hsz : w.heap.size + 3 ≤ wr.heap.size := by have := h.val.lt; omega
  have hrow : ∀ k, vL.ownBlock = some k → w.heap.size + 3 ≤ k := fun k hk => (h.ownL.lt k hk).1
  have n1 : some (w.heap.size + 1 + 1) ≠ vL.ownBlock := fun e => by have := hrow _ e.symm; omega
  have n2 : some (w.heap.size + 1) ≠ vL.ownBlock := fun e => by have := hrow _ e.symm; omega
  have n3 : some w.heap.size ≠ vL.ownBlock := fun e => by have := hrow _ e.symm; omega
  have hF : From (fun k => w.heap.size + 3 ≤ k ∧ vL.ownBlock ≠ some k ∧ vO.ownBlock ≠ some k) wr (W3.setCell ⟨w.heap.size + 1 + 1, 3, none⟩ v') := fun k hk hlt =>
    (Below.heap_setCell W3 ⟨w.heap.size + 1 + 1, 3, none⟩ v' k (by simp only; omega)).trans (hgrow.block k hlt (fun e => hk.2.1 e.symm))
  have hsub : ∀ k, (w.heap.size + 3 ≤ k ∧ vL.ownBlock ≠ some k ∧ vO.ownBlock ≠ some k) → k < wr.heap.size → (w.heap.size + 3 ≤ k ∧ v'.ownBlock ≠ some k ∧ vO.ownBlock ≠ some k) :=
    fun k hk hlt => ⟨hk.1, at_ne hat hk.2.1 hlt, hk.2.2⟩
  have hownO3 : W3.ownsRow (w.heap.size + 3) 45 6 vO ov.length ys := h.ownO.kept hgrow (own_apart h.ownO h.ownL (by decide))
  have hb3 : Below w.heap.size w (W3.setCell ⟨w.heap.size + 1 + 1, 3, none⟩ v') :=
    (h.below.grown hgrow (by omega) (fun k hk => by have := hrow k hk; omega)).setCell (by simp only; omega) _
  obtain ⟨cs, hcs, hr⟩ := h.res
  refine ⟨hb3, (h.tok.grown hgrow n2).far (by simp only; omega) _, ⟨cs, hcs, (hr.grown hgrow n3).far (by simp only; omega) _⟩, l ++ [g], ks, ov, v', vO, xs ++ chunk g L O, ys, ?_, ?_, ?_, ?_, ?_, ?_, ?_, ?_, h.pos.1, ?_, h.pos.2.2⟩
  · exact (h.val.grown hgrow n1).put 3 v'
  · rw [List.length_append]; exact ownsRow_setCell_below hown (by simp only; omega) _
  · exact ownsRow_setCell_below hownO3 (by simp only; omega) _
  · exact (RowL.snoc hL hO h.rowL).keep hF hsub
  · exact h.rowO.keep hF hsub
  · rw [weights_snoc, tot_more]; have := h.weigh; omega
  · rw [List.length_append]; have := h.lenL; simp; omega
  · have := h.lenO; omega
  · intro x hx; rcases List.mem_append.1 hx with hx | hx; exact h.pos.2.1 x hx; simp at hx; subst hx; exact hp

theorem RawPs.addO {l : List GV} {ks : List ByteArray} {ov : List GV} {vL vO : Value} {xs ys : List Value} (h : RawPs w t ts u l ks ov vL vO xs ys wr) {g : GV} {L O : Value} {n : Nat} {W3 : World} {v' : Value}
    (hL : LstV (fun k => w.heap.size + 3 ≤ k ∧ vL.ownBlock ≠ some k ∧ vO.ownBlock ≠ some k) wr L g.items) (hO : ObjV (fun k => w.heap.size + 3 ≤ k ∧ vL.ownBlock ≠ some k ∧ vO.ownBlock ≠ some k) wr O g.keys g.vals)
    (hown : W3.ownsRow (w.heap.size + 3) 45 6 v' (ov.length + 1) (ys ++ (.string g.str :: chunk g L O))) (hgrow : wr.grownBy W3 vO.ownBlock) (hat : v'.ownBlock = vO.ownBlock ∨ v'.ownBlock = some wr.heap.size)
    (hn : 1 ≤ n) (hp : g.PosN) (hwt : g.weight + g.str.size ≤ 2 * tot ((ts.drop u).take n)) : RawInv w t ts (u + n) (W3.setCell ⟨w.heap.size + 1 + 1, 4, none⟩ v') := by
  have hsz : w.heap.size + 3 ≤ wr.heap.size := by have := h.val.lt; omega
  have hrow : ∀ k, vO.ownBlock = some k → w.heap.size + 3 ≤ k := fun k hk => (h.ownO.lt k hk).1
  have n1 : some (w.heap.size + 1 + 1) ≠ vO.ownBlock := fun e => by have := hrow _ e.symm; omega
  have n2 : some (w.heap.size + 1) ≠ vO.ownBlock := fun e => by have := hrow _ e.symm; omega
  have n3 : some w.heap.size ≠ vO.ownBlock := fun e => by have := hrow _ e.symm; omega
  have hF : From (fun k => w.heap.size + 3 ≤ k ∧ vL.ownBlock ≠ some k ∧ vO.ownBlock ≠ some k) wr (W3.setCell ⟨w.heap.size + 1 + 1, 4, none⟩ v') := fun k hk hlt =>
    (Below.heap_setCell W3 ⟨w.heap.size + 1 + 1, 4, none⟩ v' k (by simp only; omega)).trans (hgrow.block k hlt (fun e => hk.2.2 e.symm))
  have hsub : ∀ k, (w.heap.size + 3 ≤ k ∧ vL.ownBlock ≠ some k ∧ vO.ownBlock ≠ some k) → k < wr.heap.size → (w.heap.size + 3 ≤ k ∧ vL.ownBlock ≠ some k ∧ v'.ownBlock ≠ some k) :=
    fun k hk hlt => ⟨hk.1, hk.2.1, at_ne hat hk.2.2 hlt⟩
  have hownL3 : W3.ownsRow (w.heap.size + 3) 31 5 vL l.length xs := h.ownL.kept hgrow (own_apart h.ownL h.ownO (by decide))
  have hb3 : Below w.heap.size w (W3.setCell ⟨w.heap.size + 1 + 1, 4, none⟩ v') :=
    (h.below.grown hgrow (by omega) (fun k hk => by have := hrow k hk; omega)).setCell (by simp only; omega) _
  obtain ⟨cs, hcs, hr⟩ := h.res
  refine ⟨hb3, (h.tok.grown hgrow n2).far (by simp only; omega) _, ⟨cs, hcs, (hr.grown hgrow n3).far (by simp only; omega) _⟩, l, ks ++ [g.str], ov ++ [g], vL, v', xs, ys ++ (.string g.str :: chunk g L O), ?_, ?_, ?_, ?_, ?_, ?_, ?_, ?_, h.pos.1, h.pos.2.1, ?_⟩
  · exact (h.val.grown hgrow n1).put 4 v'
  · exact ownsRow_setCell_below hownL3 (by simp only; omega) _
  · rw [List.length_append]; exact ownsRow_setCell_below hown (by simp only; omega) _
  · exact h.rowL.keep hF hsub
  · exact (RowO.snoc hL hO h.rowO).keep hF hsub
  · rw [weights_snoc, tot_more, List.map_append, List.sum_append]; have := h.weigh; simp; omega
  · have := h.lenL; omega
  · rw [List.length_append]; have := h.lenO; simp; omega
  · intro x hx; rcases List.mem_append.1 hx with hx | hx; exact h.pos.2.2 x hx; simp at hx; subst hx; exact hp


/-- What the walk reads and writes at the way out. -/
structure Ready (w : World) (t : GTok) (vL vO : Value) (wr : World) : Prop where
  v0 : wr.cell? ⟨w.heap.size + 1 + 1, 0, none⟩ = some (.int .u8 t.k)
  v1 : wr.cell? ⟨w.heap.size + 1 + 1, 1, none⟩ = some (.int .i64 t.n)
  v2 : wr.cell? ⟨w.heap.size + 1 + 1, 2, none⟩ = some (.string t.s)
  v3 : wr.cell? ⟨w.heap.size + 1 + 1, 3, none⟩ = some vL
  v4 : wr.cell? ⟨w.heap.size + 1 + 1, 4, none⟩ = some vO
  f3 : wr.frozen? ⟨w.heap.size + 1 + 1, 3, none⟩ = false
  f4 : wr.frozen? ⟨w.heap.size + 1 + 1, 4, none⟩ = false
  t0 : wr.cell? ⟨w.heap.size + 1, 0, none⟩ = some (.int .u8 t.k)
  t3 : wr.cell? ⟨w.heap.size + 1, 3, none⟩ = some (.int .u8 t.m)
  r : ∃ z0 z1 z2 z3 z4 : Value, wr.cell? ⟨w.heap.size, 0, none⟩ = some z0 ∧ wr.cell? ⟨w.heap.size, 1, none⟩ = some z1 ∧ wr.cell? ⟨w.heap.size, 2, none⟩ = some z2 ∧ wr.cell? ⟨w.heap.size, 3, none⟩ = some z3 ∧ wr.cell? ⟨w.heap.size, 4, none⟩ = some z4
  rf : ∀ j, wr.frozen? ⟨w.heap.size, j, none⟩ = false
theorem RawPs.ready {l : List GV} {ks : List ByteArray} {ov : List GV} {vL vO : Value} {xs ys : List Value} (h : RawPs w t ts u l ks ov vL vO xs ys wr) : Ready w t vL vO wr := by
  obtain ⟨⟨cs⟩, hcs, hr⟩ := h.res
  match cs, hcs with
  | [z0, z1, z2, z3, z4], _ =>
    exact ⟨(h.val.cell 0).trans rfl, (h.val.cell 1).trans rfl, (h.val.cell 2).trans rfl, (h.val.cell 3).trans rfl, (h.val.cell 4).trans rfl, h.val.frozen 3, h.val.frozen 4, (h.tok.cell 0).trans rfl, (h.tok.cell 3).trans rfl,
      ⟨z0, z1, z2, z3, z4, (hr.cell 0).trans rfl, (hr.cell 1).trans rfl, (hr.cell 2).trans rfl, (hr.cell 3).trans rfl, (hr.cell 4).trans rfl⟩, fun j => hr.frozen j⟩

/-- The way out, at the five stores. -/
theorem RawPs.done {l : List GV} {ks : List ByteArray} {ov : List GV} {vL vO : Value} {xs ys : List Value} (h : RawPs w t ts u l ks ov vL vO xs ys wr) (h1 : 1 ≤ u) (h2 : u ≤ ts.length) (a b c d e : Value) :
    RawPost ts w (.returned (.tuple #[.agg #[.int .u8 t.k, .int .i64 t.n, .string t.s, vL, vO], .int .i64 u])) (((((wr.setCell ⟨w.heap.size, 0, none⟩ a).setCell ⟨w.heap.size, 1, none⟩ b).setCell ⟨w.heap.size, 2, none⟩ c).setCell ⟨w.heap.size, 3, none⟩ d).setCell ⟨w.heap.size, 4, none⟩ e) := by
  obtain ⟨vL', vO', hv, hout⟩ := h.inv.out h1 h2
  have : vL' = vL ∧ vO' = vO := by
    have e3 := (hv.cell 3).symm.trans (h.val.cell 3)
    have e4 := (hv.cell 4).symm.trans (h.val.cell 4)
    simp at e3 e4
    exact ⟨e3, e4⟩
  obtain ⟨rfl, rfl⟩ := this
  refine hout _ (fun k hk _ => ?_) (((((h.below.setCell (Nat.le_refl _) _).setCell (Nat.le_refl _) _).setCell (Nat.le_refl _) _).setCell (Nat.le_refl _) _).setCell (Nat.le_refl _) _)
  rw [Below.heap_setCell _ _ _ _ (by simp only; omega), Below.heap_setCell _ _ _ _ (by simp only; omega), Below.heap_setCell _ _ _ _ (by simp only; omega), Below.heap_setCell _ _ _ _ (by simp only; omega), Below.heap_setCell _ _ _ _ (by simp only; omega)]
theorem RawPs.cellL {l : List GV} {ks : List ByteArray} {ov : List GV} {vL vO : Value} {xs ys : List Value} (h : RawPs w t ts u l ks ov vL vO xs ys wr) {W3 : World} (hg : wr.grownBy W3 vL.ownBlock) :
    W3.cell? ⟨w.heap.size + 1 + 1, 3, none⟩ = some vL ∧ W3.frozen? ⟨w.heap.size + 1 + 1, 3, none⟩ = false := by
  have := h.val.grown hg (fun e => by have := (h.ownL.lt _ e.symm).1; omega)
  exact ⟨(this.cell 3).trans rfl, this.frozen 3⟩
theorem RawPs.cellO {l : List GV} {ks : List ByteArray} {ov : List GV} {vL vO : Value} {xs ys : List Value} (h : RawPs w t ts u l ks ov vL vO xs ys wr) {W3 : World} (hg : wr.grownBy W3 vO.ownBlock) :
    W3.cell? ⟨w.heap.size + 1 + 1, 4, none⟩ = some vO ∧ W3.frozen? ⟨w.heap.size + 1 + 1, 4, none⟩ = false := by
  have := h.val.grown hg (fun e => by have := (h.ownO.lt _ e.symm).1; omega)
  exact ⟨(this.cell 4).trans rfl, this.frozen 4⟩
/-- What a call within the round made, said two blocks later, of blocks that are neither row's. -/
theorem RawPs.newL {l : List GV} {ks : List ByteArray} {ov : List GV} {vL vO : Value} {xs ys : List Value} (h : RawPs w t ts u l ks ov vL vO xs ys wr) {W1 : World} (o o' : Obj) {L : Value} {gl : List GV} (hL : LstV (fun k => wr.heap.size ≤ k) W1 L gl) :
    LstV (fun k => w.heap.size + 3 ≤ k ∧ vL.ownBlock ≠ some k ∧ vO.ownBlock ≠ some k) ((W1.alloc o).alloc o') L gl :=
  hL.keep (fun k _ hk => by rw [Below.heap_alloc _ _ _ (by simp; omega), Below.heap_alloc _ _ _ hk]) (fun k hk _ => fresh_ok (by have := h.val.lt; omega) h.ownL h.ownO hk)
theorem RawPs.newO {l : List GV} {ks : List ByteArray} {ov : List GV} {vL vO : Value} {xs ys : List Value} (h : RawPs w t ts u l ks ov vL vO xs ys wr) {W1 : World} (o o' : Obj) {O : Value} {gk : List ByteArray} {gv : List GV} (hO : ObjV (fun k => wr.heap.size ≤ k) W1 O gk gv) :
    ObjV (fun k => w.heap.size + 3 ≤ k ∧ vL.ownBlock ≠ some k ∧ vO.ownBlock ≠ some k) ((W1.alloc o).alloc o') O gk gv :=
  hO.keep (fun k _ hk => by rw [Below.heap_alloc _ _ _ (by simp; omega), Below.heap_alloc _ _ _ hk]) (fun k hk _ => fresh_ok (by have := h.val.lt; omega) h.ownL h.ownO hk)
end
end Go.Proofs.YtmmjkhkcffgeiaaDoor
