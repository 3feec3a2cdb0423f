/- reach, for one who changes. -/
import Derived.Test.YtbmfjchdmicdoaaDoorLoosen
namespace Go.Proofs.YtbmfjchdmicdoaaDoor
open Go Go.RowKit

theorem Just.over {b lo n n1 lo' n' : Nat} {W W1 W2 W' : World} (h : Just b lo n W W1) (hb : Below W1.heap.size W1 W2) (k : Just n1 lo' n' W2 W') (hlt : b < W.heap.size) (hn : W.heap.size ≤ n1) : Just b lo n W W' := by
  have hs := h.size
  have hs2 := hb.size
  have hblk : W'.heap[b]? = W1.heap[b]? := (k.far b (by omega) (by omega)).trans (hb.block b (by omega))
  exact ⟨(k.os.trans hb.os).trans h.os, (k.tape.trans hb.tape).trans h.tape, (k.output.trans hb.output).trans h.output, by have := k.size; omega,
    fun i hi hne => ((k.far i (by omega) (by omega)).trans (hb.block i (by omega))).trans (h.far i hi hne),
    fun j hj => (World.cell?_of_block (a := ⟨b, j, none⟩) hblk).trans (h.near j hj),
    fun t cs hw => by obtain ⟨cs', h'⟩ := h.row t cs hw; exact ⟨cs', h'.of_eq hblk⟩⟩
theorem Just.later {root b off : Nat} {w W W' : World} (h : Just root 0 5 w W) (k : Just b off 5 W W') (hbig : (b = root ∧ off = 0) ∨ w.heap.size ≤ b) (hr : root < w.heap.size) : Just root 0 5 w W' := by
  rcases hbig with ⟨rfl, rfl⟩ | hb
  · exact h.trans k
  · have hs := h.size
    have hblk : W'.heap[root]? = W.heap[root]? := k.far root (by omega) (by omega)
    exact ⟨k.os.trans h.os, k.tape.trans h.tape, k.output.trans h.output, Nat.le_trans h.size k.size, fun i hi hn => (k.far i (by omega) (by omega)).trans (h.far i hi hn),
      fun j hj => (World.cell?_of_block (a := ⟨root, j, none⟩) hblk).trans (h.near j hj), fun t cs hw => by obtain ⟨cs', h'⟩ := h.row t cs hw; exact ⟨cs', h'.of_eq hblk⟩⟩

/-- Between the rounds. -/
structure PJ (w : World) (R root : Nat) (g x : GV) (ps : List GStep) (k b off : Nat) (h : GV) (F : GV → GV) (W : World) : Prop where
  just : Just root 0 5 w W
  big : (b = root ∧ off = 0) ∨ w.heap.size ≤ b
  whole : ∃ t cs, Whole W b t cs
  at' : h.at (fun k => k < R) W b off
  goes : ∀ y, h.put x (ps.drop k) = some y → g.put x ps = some (F y)
  stops : h.put x (ps.drop k) = none → g.put x ps = none
  small : h.weight ≤ 1000000000
  wand : ∀ (W' : World) (y : GV), Just b off 5 W W' → y.at (fun _ => True) W' b off → (F y).at (fun _ => True) W' root 0
section
variable {w W W1 W2 : World} {R root : Nat} {g x : GV} {ps : List GStep} {k b off : Nat} {h : GV} {F : GV → GV}
theorem PJ.lt (q : PJ w R root g x ps k b off h F W) : b < W.heap.size := by obtain ⟨t, cs, hw⟩ := q.whole; exact hw.lt
theorem PJ.root_lt (q : PJ w R root g x ps k b off h F W) (hr : root < w.heap.size) : root < W.heap.size := Nat.lt_of_lt_of_le hr q.just.size
theorem PJ.le (q : PJ w R root g x ps k b off h F W) (hR : R ≤ root) (hr : root < w.heap.size) : R ≤ b := by rcases q.big with ⟨e, _⟩ | h <;> omega
theorem PJ.later (q : PJ w R root g x ps k b off h F W) (hr : root < w.heap.size) (hb : Below W.heap.size W W1) : PJ w R root g x ps k b off h F W1 :=
  ⟨q.just.trans (Just.of_below hb (q.root_lt hr)), q.big, by obtain ⟨t, cs, hw⟩ := q.whole; exact ⟨t, cs, hw.below hb hw.lt⟩, GV.at_keep (From.of_below hb) (fun _ h _ => h) h (hb.block b q.lt) q.at', q.goes, q.stops, q.small,
    fun W' y hJ hy => q.wand W' y ((Just.of_below hb q.lt).trans hJ) hy⟩
theorem PJ.start {_ok : Nat → Prop} (_hr : root < w.heap.size) (_hR : R ≤ root) {AL AO : Option Addr} {cL cO : Nat} (hw : Whole w root 29 #[.int .u8 g.kind, .int .i64 g.num, .string g.str, .slice AL g.items.length cL, .slice AO g.vals.length cO])
    (hL : LstV (fun k => k < R) w (.slice AL g.items.length cL) g.items) (hO : ObjV (fun k => k < R) w (.slice AO g.vals.length cO) g.keys g.vals) (hs : g.weight ≤ 1000000000) : PJ w R root g x ps 0 root 0 g (fun y => y) w := by
  obtain ⟨c0, c1, c2, c3, c4, _⟩ := hw.five
  exact ⟨Just.refl _ _ _ _, .inl ⟨rfl, rfl⟩, ⟨_, _, hw⟩, GV.at_iff.2 ⟨_, _, c0, c1, c2, c3, c4, hL, hO⟩, fun y h => h, fun h => h, hs, fun _ _ _ h => h⟩

theorem PJ.put_step (q : PJ w R root g x ps k b off h F W) {s : GStep} (hd : ps.drop k = s :: ps.drop (k + 1)) {h' : GV} (hi : h.inside s = some h') :
    (∀ y, h'.put x (ps.drop (k + 1)) = some y → g.put x ps = some (F (h.setIn s y))) ∧ (h'.put x (ps.drop (k + 1)) = none → g.put x ps = none) := by
  constructor
  · intro y hy
    exact q.goes _ (by rw [hd]; simp [GV.put, hi, hy])
  · intro hn
    exact q.stops (by rw [hd]; simp [GV.put, hi, hn])
theorem PJ.put_stop (q : PJ w R root g x ps k b off h F W) {s : GStep} (hd : ps.drop k = s :: ps.drop (k + 1)) (hi : h.inside s = none) : g.put x ps = none :=
  q.stops (by rw [hd]; simp [GV.put, hi])

theorem own_addr {W : World} {base : Nat} {e : TypeId} {size n c : Nat} {A : Option Addr} {xs : List Value} (h : W.ownsRow base e size (.slice A n c) n xs) {b o : Nat} (hA : A = some ⟨b, o, none⟩) : o = 0 ∧ base ≤ b ∧ ∃ cs, Whole W b e cs := by
  subst hA
  rcases h.2 with ⟨hn, _⟩ | ⟨g, cap, cur, he, hb, hg, _⟩
  · cases hn
  · cases he; exact ⟨rfl, hb, cur, hg⟩
theorem own_out {W : World} {base : Nat} {e e' : TypeId} {size size' n n' c : Nat} {A : Option Addr} {v' : Value} {xs xs' : List Value} (h : W.ownsRow base e size (.slice A n c) n xs) (h' : W.ownsRow base e' size' v' n' xs') (hne : e ≠ e') {b o : Nat} (hA : A = some ⟨b, o, none⟩) : ∀ k, v'.ownBlock = some k → k ≠ b := fun k hk e2 => by
  subst e2
  rcases own_apart h' h (Ne.symm hne) with h1 | h1
  · rw [h1] at hk; cases hk
  · rw [hk, hA] at h1; exact h1 rfl

theorem PJ.stepL (q : PJ w R root g x ps k b off h F W) (hR : R ≤ root) (hr : root < w.heap.size) {AL AO : Option Addr} {cL cO : Nat} {xs ys : List Value} (hl : Loose R b off h W W1 AL AO cL cO xs ys) (hb : Below W1.heap.size W1 W2) {s : GStep} (hd : ps.drop k = s :: ps.drop (k + 1))
    {k' n1 o1 : Nat} {h' : GV} (hs : s.list = true) (hi : s.i = k') (hg : h.items[k']? = some h') (hin : h.inside s = some h') (hA : AL = some ⟨n1, o1, none⟩) : PJ w R root g x ps (k + 1) n1 (o1 + k' * 5) h' (fun y => F (h.setIn s y)) W2 := by
  obtain ⟨rfl, hB, cs, hcs⟩ := own_addr hl.ol hA
  have hle := q.le hR hr
  have hsz := hl.just.size
  have hws := q.just.size
  have hbl := q.lt
  have hRW : R ≤ W.heap.size := by omega
  have hE : GV.els (fun k => k < R) W1 n1 5 0 h.items := hl.rl.els fun j u hj => by
    have := hl.ol.cells (g := n1) (by rw [hA]; rfl) j u hj
    rwa [addr_add0] at this
  refine ⟨(q.just.later hl.just q.big hr).trans (Just.of_below hb (by omega)), .inr (by omega), ⟨_, cs, hcs.below hb hcs.lt⟩, GV.at_keep (From.of_below hb) (fun _ h _ => h) h' (hb.block n1 hcs.lt) (GV.els_get hE hg), (q.put_step hd hin).1, (q.put_step hd hin).2, Nat.le_trans (inside_weight hin) q.small, fun W' y hJ hy => ?_⟩
  refine q.wand W' (h.setIn s y) (hl.just.over hb hJ hbl hB) ?_
  have hblk : W'.heap[b]? = W1.heap[b]? := (hJ.far b (by have := hb.size; omega) (by omega)).trans (hb.block b (by omega))
  have hc : ∀ j, W'.cell? ⟨b, j, none⟩ = W1.cell? ⟨b, j, none⟩ := fun j => World.cell?_of_block (a := ⟨b, j, none⟩) hblk
  have hF1 : From (fun k => k < R) W1 W2 := From.of_below hb
  have hF2 : From (fun k => k < R) W2 W' := hJ.from (by omega)
  have hL := own_setL (hl.rl.keep hF1 (fun _ h _ => h)) (own_below hl.ol hb) hRW (by rw [hA]) hJ hy
  have hO2 : W'.ownsRow W.heap.size 52 6 (.slice AO h.vals.length cO) h.vals.length ys :=
    own_same (own_below hl.oo hb) (fun j hj => hJ.far j (by have := (own_below hl.oo hb).lt j hj; omega) (own_out hl.ol hl.oo (by decide) hA j hj))
  have hO := ObjV.of_own (ok := fun _ => True) hO2 (((hl.ro.keep hF1 (fun _ h _ => h)).keep hF2 (fun _ h _ => h)).keep (From.refl _ _) (fun _ _ _ => trivial)) (fun _ _ => trivial)
  obtain ⟨e1, e2⟩ := setIn_items (g := h) (y := y) hs
  refine GV.at_iff.2 ⟨_, _, (hc _).trans (by simpa using hl.c0), (hc _).trans (by simpa using hl.c1), (hc _).trans (by simpa using hl.c2), (hc _).trans hl.c3, (hc _).trans hl.c4, ?_, ?_⟩
  · rw [e1, hi]; exact hL
  · rw [e2, setIn_keys]; exact hO
theorem PJ.stepO (q : PJ w R root g x ps k b off h F W) (hR : R ≤ root) (hr : root < w.heap.size) {AL AO : Option Addr} {cL cO : Nat} {xs ys : List Value} (hl : Loose R b off h W W1 AL AO cL cO xs ys) (hb : Below W1.heap.size W1 W2) {s : GStep} (hd : ps.drop k = s :: ps.drop (k + 1))
    {n1 o1 : Nat} {h' : GV} (hs : s.list = false) (hg : h.vals[place s.key h.keys]? = some h') (hin : h.inside s = some h') (hA : AO = some ⟨n1, o1, none⟩) : PJ w R root g x ps (k + 1) n1 (o1 + place s.key h.keys * 6 + 1) h' (fun y => F (h.setIn s y)) W2 := by
  obtain ⟨rfl, hB, cs, hcs⟩ := own_addr hl.oo hA
  have hle := q.le hR hr
  have hsz := hl.just.size
  have hws := q.just.size
  have hbl := q.lt
  have hRW : R ≤ W.heap.size := by omega
  have hE := hl.ro.els (b := n1) (off := 0) fun j u hj => by
    have := hl.oo.cells (g := n1) (by rw [hA]; rfl) j u hj
    rwa [addr_add0] at this
  have hat := GV.els_get hE.2 hg
  rw [show 0 + 1 + place s.key h.keys * 6 = 0 + place s.key h.keys * 6 + 1 by omega] at hat
  refine ⟨(q.just.later hl.just q.big hr).trans (Just.of_below hb (by omega)), .inr (by omega), ⟨_, cs, hcs.below hb hcs.lt⟩, GV.at_keep (From.of_below hb) (fun _ h _ => h) h' (hb.block n1 hcs.lt) hat, (q.put_step hd hin).1, (q.put_step hd hin).2, Nat.le_trans (inside_weight hin) q.small, fun W' y hJ hy => ?_⟩
  refine q.wand W' (h.setIn s y) (hl.just.over hb hJ hbl hB) ?_
  have hblk : W'.heap[b]? = W1.heap[b]? := (hJ.far b (by have := hb.size; omega) (by omega)).trans (hb.block b (by omega))
  have hc : ∀ j, W'.cell? ⟨b, j, none⟩ = W1.cell? ⟨b, j, none⟩ := fun j => World.cell?_of_block (a := ⟨b, j, none⟩) hblk
  have hF1 : From (fun k => k < R) W1 W2 := From.of_below hb
  have hF2 : From (fun k => k < R) W2 W' := hJ.from (by omega)
  have hO := own_setO (hl.ro.keep hF1 (fun _ h _ => h)) (own_below hl.oo hb) hRW (by rw [hA]) hJ hy
  have hL2 : W'.ownsRow W.heap.size 29 5 (.slice AL h.items.length cL) h.items.length xs :=
    own_same (own_below hl.ol hb) (fun j hj => hJ.far j (by have := (own_below hl.ol hb).lt j hj; omega) (own_out hl.oo hl.ol (by decide) hA j hj))
  have hL := LstV.of_own (ok := fun _ => True) hL2 (((hl.rl.keep hF1 (fun _ h _ => h)).keep hF2 (fun _ h _ => h)).keep (From.refl _ _) (fun _ _ _ => trivial)) (fun _ _ => trivial)
  obtain ⟨e1, e2⟩ := setIn_vals (g := h) (y := y) hs
  refine GV.at_iff.2 ⟨_, _, (hc _).trans (by simpa using hl.c0), (hc _).trans (by simpa using hl.c1), (hc _).trans (by simpa using hl.c2), (hc _).trans hl.c3, (hc _).trans hl.c4, ?_, ?_⟩
  · rw [e1]; exact hL
  · rw [e2, setIn_keys]; exact hO
end
end Go.Proofs.YtbmfjchdmicdoaaDoor
