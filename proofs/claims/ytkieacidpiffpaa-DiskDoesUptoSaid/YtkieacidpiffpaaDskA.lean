/- A disk in memory: its box, its map, its files' boxes and rows; what is kept while other memory turns. -/
import Derived.Test.YtkieacidpiffpaaDskM
import Derived.Maps.RangeWalk
import Derived.Maps.OwnSet
import Derived.Maps.Ext
import Derived.StringKeys
namespace Go.Proofs.Ytkieacidpiffpaa
open Go Go.RowKit
set_option linter.unusedVariables false
set_option linter.unusedSimpArgs false

theorem lawS : Maps.Keyed Try.prog 9 := Maps.string_keyed Try.underlying9
theorem OwnB.of_eq {base : Nat} {W W' : World} {v : Value} {bs : List Int} (h : OwnB base W v bs) (hb : ∀ k, v.ownBlock = some k → W'.heap[k]? = W.heap[k]?) : OwnB base W' v bs := by
  refine ⟨h.1, h.2.imp id ?_⟩
  rintro ⟨g, cap, cur, rfl, hg, hw, r⟩
  exact ⟨g, cap, cur, rfl, hg, Eq.trans (hb g rfl) hw, r⟩
theorem OwnB.size {base : Nat} {W : World} {v : Value} {bs : List Int} (h : OwnB base W v bs) : ∀ k, v.ownBlock = some k → k < W.heap.size := fun k hk => (h.lt k hk).2
theorem ownsMap_of_eq {w w' : World} {P : Program} {k : TypeId} {R : Value → Option (DataW Unit × List MemPlace)} {b n : Nat} {D : DataW Unit} (h : w.ownsMap P k R b n D) (e : w'.heap[b]? = w.heap[b]?) : w'.ownsMap P k R b n D := by
  obtain ⟨es, clock, hb, r⟩ := h
  exact ⟨es, clock, e.trans hb, r⟩
theorem ownsMap_tight {w : World} {P : Program} {k : TypeId} {R : Value → Option (DataW Unit × List MemPlace)} {b n m : Nat} {D : DataW Unit} (h : w.ownsMap P k R b n D) (hm : Maps.size D ≤ m) : w.ownsMap P k R b m D := by
  obtain ⟨es, clock, hb, F, hs, rfl⟩ := h
  refine ⟨es, clock, hb, F, ?_, rfl⟩
  simpa [Maps.size, length_sorted] using hm

/-- What was there and is not one's own is as it was. -/
structure Kp (own : Nat → Prop) (w w' : World) : Prop where
  os : w'.os = w.os
  tape : w'.tape = w.tape
  output : w'.output = w.output
  size : w.heap.size ≤ w'.heap.size
  block : ∀ i, i < w.heap.size → ¬ own i → w'.heap[i]? = w.heap[i]?
section
variable {own o2 : Nat → Prop} {w w' w2 : World}
theorem Kp.refl (own : Nat → Prop) (w : World) : Kp own w w := ⟨rfl, rfl, rfl, Nat.le_refl _, fun _ _ _ => rfl⟩
theorem Kp.trans (h : Kp own w w') (k : Kp o2 w' w2) (ho : ∀ i, o2 i → own i ∨ w.heap.size ≤ i) : Kp own w w2 :=
  ⟨k.os.trans h.os, k.tape.trans h.tape, k.output.trans h.output, Nat.le_trans h.size k.size, fun i hi hn =>
    (k.block i (Nat.lt_of_lt_of_le hi h.size) (fun h2 => by rcases ho i h2 with h3 | h3; exact hn h3; omega)).trans (h.block i hi hn)⟩
theorem Kp.mono (h : Kp own w w') (ho : ∀ i, own i → o2 i) : Kp o2 w w' := ⟨h.os, h.tape, h.output, h.size, fun i hi hn => h.block i hi fun h2 => hn (ho i h2)⟩
theorem Kp.of_below (h : Below w.heap.size w w') : Kp own w w' := ⟨h.os, h.tape, h.output, h.size, fun i hi _ => h.block i hi⟩
theorem Kp.below (h : Kp own w w') {B : Nat} (hB : B ≤ w.heap.size) (ho : ∀ i, own i → B ≤ i) : Below B w w' :=
  ⟨h.os, h.tape, h.output, h.size, fun i hi => h.block i (by omega) fun h2 => by have := ho i h2; omega⟩
theorem Kp.grown {row : Option Nat} (h : w.grownBy w' row) (ho : ∀ k, row = some k → own k) : Kp own w w' :=
  ⟨h.os, h.tape, h.output, h.size, fun i hi hn => h.block i hi fun e => hn (ho i e.symm)⟩
theorem Kp.setCell (w : World) (p : Addr) (u : Value) (ho : own p.block) : Kp own w (w.setCell p u) :=
  ⟨rfl, rfl, rfl, by simp [World.setCell], fun i _ hn => Below.heap_setCell _ _ _ _ fun e => hn (e ▸ ho)⟩
theorem Kp.alloc (own : Nat → Prop) (w : World) (o : Obj) : Kp own w (w.alloc o) := Kp.of_below ((Below.refl _ _).alloc (Nat.le_refl _) o)
theorem Kp.drew (own : Nat → Prop) (w : World) : Kp own w w.drew := ⟨rfl, rfl, rfl, Nat.le_refl _, fun _ _ _ => rfl⟩
theorem Kp.drewN (own : Nat → Prop) (w : World) (n : Nat) : Kp own w (w.drewN n) := ⟨rfl, rfl, rfl, Nat.le_refl _, fun _ _ _ => rfl⟩
end

structure FlAt (w : World) (f : Fl) : Prop where
  box : Whole w f.blk 65 #[f.row, .int .i64 f.vw.lasts]
  row : OwnB 0 w f.row f.vw.has
  lasts : f.vw.lasts ≤ f.vw.has.length
  byte : Byte f.vw.has
  apart : f.row.ownBlock ≠ some f.blk
  name : f.vw.name.size ≤ 30
theorem FlAt.keep {w w' : World} {f : Fl} (h : FlAt w f) (hb : ∀ i, f.own i → w'.heap[i]? = w.heap[i]?) : FlAt w' f :=
  ⟨h.box.of_eq (hb _ (.inl rfl)), h.row.of_eq fun k hk => hb k (.inr hk), h.lasts, h.byte, h.apart, h.name⟩
theorem FlAt.lt {w : World} {f : Fl} (h : FlAt w f) {i : Nat} (ho : f.own i) : i < w.heap.size := by
  rcases ho with rfl | ho
  · exact h.box.lt
  · exact h.row.size i ho

structure Dk where
  B : Nat
  M : Nat
  room : Nat
  full : Bool
  left : Int
  fs : List Fl
def Dk.md (d : Dk) : Md := ⟨d.room, d.full, d.left, vws d.fs⟩
def Dk.own (d : Dk) (i : Nat) : Prop := i = d.B ∨ i = d.M ∨ ∃ f ∈ d.fs, f.own i
structure DkAt (w : World) (d : Dk) : Prop where
  box : Whole w d.B 60 #[.int .i64 d.room, .map (some d.M), .bool d.full, .int .i64 d.left]
  map : ∃ D, w.ownsMap Try.prog 9 ptrE d.M d.fs.length D ∧ Rd D d.fs
  files : ∀ f ∈ d.fs, FlAt w f
  bm : d.B ≠ d.M
  off : ∀ f ∈ d.fs, ¬ f.own d.B ∧ ¬ f.own d.M
  names : d.fs.Pairwise fun f g => f.vw.name ≠ g.vw.name
  apart : ∀ f ∈ d.fs, ∀ g ∈ d.fs, f.vw.name ≠ g.vw.name → ∀ i, f.own i → ¬ g.own i
  used : sizes (vws d.fs) ≤ d.room
  room : d.room ≤ 1048576
  many : d.fs.length ≤ 64
  left : -1 ≤ d.left ∧ d.left ≤ 9223372036854775807
section
variable {w w' : World} {d : Dk}
theorem DkAt.mlt (h : DkAt w d) : d.M < w.heap.size := by obtain ⟨D, hm, _⟩ := h.map; exact hm.lt
theorem DkAt.lt (h : DkAt w d) {i : Nat} (ho : d.own i) : i < w.heap.size := by
  rcases ho with rfl | rfl | ⟨f, hf, ho⟩
  · exact h.box.lt
  · exact h.mlt
  · exact (h.files f hf).lt ho
theorem DkAt.keep (h : DkAt w d) (hb : ∀ i, d.own i → w'.heap[i]? = w.heap[i]?) : DkAt w' d := by
  obtain ⟨D, hm, hr⟩ := h.map
  exact ⟨h.box.of_eq (hb _ (.inl rfl)), ⟨D, ownsMap_of_eq hm (hb _ (.inr (.inl rfl))), hr⟩, fun f hf => (h.files f hf).keep fun i hi => hb i (.inr (.inr ⟨f, hf, hi⟩)), h.bm, h.off, h.names, h.apart, h.used, h.room, h.many, h.left⟩
theorem DkAt.below (h : DkAt w d) (hb : Below w.heap.size w w') : DkAt w' d := h.keep fun i hi => hb.block i (h.lt hi)
theorem DkAt.alloc (h : DkAt w d) (o : Obj) : DkAt (w.alloc o) d := h.below ((Below.refl _ _).alloc (Nat.le_refl _) o)
/-- The box is written: the room, or the count. -/
theorem DkAt.put (h : DkAt w d) (full : Bool) (left : Int) (hl : -1 ≤ left ∧ left ≤ 9223372036854775807) {i : Nat} {u : Value}
    (hb : (#[.int .i64 d.room, .map (some d.M), .bool d.full, .int .i64 d.left] : Array Value).setIfInBounds i u = #[.int .i64 d.room, .map (some d.M), .bool full, .int .i64 left]) : DkAt (w.setCell ⟨d.B, i, none⟩ u) { d with full := full, left := left } := by
  obtain ⟨D, hm, hr⟩ := h.map
  have he : ∀ j, j ≠ d.B → (w.setCell ⟨d.B, i, none⟩ u).heap[j]? = w.heap[j]? := fun j hj => Below.heap_setCell _ _ _ _ hj
  exact ⟨hb ▸ h.box.put i u, ⟨D, ownsMap_of_eq hm (he _ (fun e => h.bm e.symm)), hr⟩, fun f hf => (h.files f hf).keep fun j hj => he j fun e => (h.off f hf).1 (e ▸ hj), h.bm, h.off, h.names, h.apart, h.used, h.room, h.many, hl⟩
theorem names_one {fs : List Fl} (hp : fs.Pairwise fun f g => f.vw.name ≠ g.vw.name) {f g : Fl} (hf : f ∈ fs) (hg : g ∈ fs) (e : f.vw.name = g.vw.name) : f = g := by
  induction fs with
  | nil => cases hf
  | cons a r ih =>
    obtain ⟨h1, h2⟩ := List.pairwise_cons.1 hp
    rcases List.mem_cons.1 hf with ef | hf
    · rcases List.mem_cons.1 hg with eg | hg
      · rw [ef, eg]
      · exact absurd (ef ▸ e) (h1 g hg)
    · rcases List.mem_cons.1 hg with eg | hg
      · exact absurd (eg ▸ e).symm (h1 f hf)
      · exact ih h2 hf hg
theorem vws_upd {fs : List Fl} (hp : fs.Pairwise fun f g => f.vw.name ≠ g.vw.name) {s : ByteArray} {f f' : Fl} (hl : lookF fs s = some f) {g : Vw → Vw} (hg : f'.vw = g f.vw) : vws (updF fs s f') = updV (vws fs) s g := by
  unfold vws updF updV
  rw [List.map_map, List.map_map]
  refine List.map_congr_left fun h hh => ?_
  show (if h.vw.name = s then f' else h).vw = if h.vw.name = s then g h.vw else h.vw
  split
  · rename_i e
    have := names_one hp hh (lookF_some hl).1 (e.trans (lookF_some hl).2.symm)
    rw [this, hg]
  · rfl
theorem sizes_upd {fs : List Fl} (hp : fs.Pairwise fun f g => f.vw.name ≠ g.vw.name) {s : ByteArray} {f f' : Fl} (hl : lookF fs s = some f) : sizes (vws (updF fs s f')) + f.vw.has.length = sizes (vws fs) + f'.vw.has.length := by
  unfold lookF at hl
  induction fs with
  | nil => simp at hl
  | cons a r ih =>
    obtain ⟨h1, h2⟩ := List.pairwise_cons.1 hp
    by_cases e : a.vw.name = s
    · rw [List.find?_cons_of_pos (by simpa using e)] at hl
      obtain rfl : a = f := Option.some.inj hl
      have hr : updF r s f' = r := by
        unfold updF
        conv => rhs; rw [← List.map_id r]
        refine List.map_congr_left fun g hg => ?_
        rw [if_neg (fun e2 => h1 g hg (e.trans e2.symm))]; rfl
      show sizes ((if a.vw.name = s then f' else a).vw :: vws (updF r s f')) + _ = sizes (a.vw :: vws r) + _
      rw [if_pos e, hr, sizes_cons, sizes_cons]; omega
    · rw [List.find?_cons_of_neg (by simpa using e)] at hl
      have := ih h2 hl
      show sizes ((if a.vw.name = s then f' else a).vw :: vws (updF r s f')) + _ = sizes (a.vw :: vws r) + _
      rw [if_neg e, sizes_cons, sizes_cons]; omega
/-- One file is another one now. -/
theorem DkAt.upd (h : DkAt w d) {f f' : Fl} (hl : lookF d.fs f'.vw.name = some f) (hb : f'.blk = f.blk) (hw : FlAt w' f') (hk : ∀ i, i < w.heap.size → ¬ f.own i → w'.heap[i]? = w.heap[i]?)
    (ho : ∀ i, f'.own i → f.own i ∨ w.heap.size ≤ i) (hu : sizes (vws (updF d.fs f'.vw.name f')) ≤ d.room) : DkAt w' { d with fs := updF d.fs f'.vw.name f' } := by
  obtain ⟨D, hm, hr⟩ := h.map
  obtain ⟨hf, hn⟩ := lookF_some hl
  have hB := h.off f hf
  have hmem : ∀ g, g ∈ updF d.fs f'.vw.name f' → g = f' ∨ (g ∈ d.fs ∧ g.vw.name ≠ f'.vw.name) := fun g hg => by
    obtain ⟨x, hx, rfl⟩ := List.mem_map.1 hg
    split
    · exact .inl rfl
    · rename_i e; exact .inr ⟨hx, e⟩
  have hfar : ∀ g, g ∈ d.fs → g.vw.name ≠ f'.vw.name → ∀ i, g.own i → ¬ f'.own i := fun g hg hgn i hi h2 => by
    rcases ho i h2 with h3 | h3
    · exact h.apart g hg f hf (fun e => hgn (e.trans hn)) i hi h3
    · have := (h.files g hg).lt hi; omega
  refine ⟨h.box.of_eq (hk _ h.box.lt hB.1), ⟨D, ownsMap_of_eq (by simpa [updF] using hm) (hk _ h.mlt hB.2), hr.upd hl hb⟩, fun g hg => ?_, h.bm, fun g hg => ?_, ?_, fun g hg x hx hne i hi => ?_, hu, h.room, by simpa [updF] using h.many, h.left⟩
  · rcases hmem g hg with rfl | ⟨hg, hgn⟩
    · exact hw
    · exact (h.files g hg).keep fun i hi => hk i ((h.files g hg).lt hi) (h.apart g hg f hf (fun e => hgn (e.trans hn)) i hi)
  · rcases hmem g hg with rfl | ⟨hg, hgn⟩
    · exact ⟨fun h2 => by rcases ho d.B h2 with h3 | h3; exact hB.1 h3; have := h.box.lt; omega, fun h2 => by rcases ho d.M h2 with h3 | h3; exact hB.2 h3; have := h.mlt; omega⟩
    · exact h.off g hg
  · show List.Pairwise _ (List.map _ _)
    rw [List.pairwise_map]
    refine h.names.imp fun {a b} hab => ?_
    have key : ∀ g : Fl, (if g.vw.name = f'.vw.name then f' else g).vw.name = g.vw.name := fun g => by split; rename_i e; exact e.symm; rfl
    rw [key, key]; exact hab
  · rcases hmem g hg with e1 | ⟨hg, hgn⟩
    · rcases hmem x hx with e2 | ⟨hx, hxn⟩
      · exact absurd (by rw [e1, e2]) hne
      · exact fun h2 => hfar x hx hxn i h2 (e1 ▸ hi)
    · rcases hmem x hx with e2 | ⟨hx, hxn⟩
      · exact e2 ▸ hfar g hg hgn i hi
      · exact h.apart g hg x hx hne i hi
/-- A file more. -/
theorem DkAt.add (h : DkAt w d) {f : Fl} (hl : lookF d.fs f.vw.name = none) (hw : FlAt w' f) (hm : ∃ D, w'.ownsMap Try.prog 9 ptrE d.M (d.fs.length + 1) D ∧ Rd D (d.fs ++ [f])) (hk : ∀ i, i < w.heap.size → i ≠ d.M → w'.heap[i]? = w.heap[i]?)
    (ho : ∀ i, f.own i → w.heap.size ≤ i) (hu : sizes (vws (d.fs ++ [f])) ≤ d.room) (h64 : d.fs.length < 64) : DkAt w' { d with fs := d.fs ++ [f] } := by
  have hmem : ∀ g, g ∈ d.fs ++ [f] → g ∈ d.fs ∨ g = f := fun g hg => by simpa using hg
  refine ⟨h.box.of_eq (hk _ h.box.lt h.bm), by simpa using hm, fun g hg => ?_, h.bm, fun g hg => ?_, ?_, fun g hg x hx hne i hi => ?_, hu, h.room, by simp; omega, h.left⟩
  · rcases hmem g hg with hg | rfl
    · exact (h.files g hg).keep fun i hi => hk i ((h.files g hg).lt hi) fun e => (h.off g hg).2 (e ▸ hi)
    · exact hw
  · rcases hmem g hg with hg | rfl
    · exact h.off g hg
    · exact ⟨fun h2 => by have := ho d.B h2; have := h.box.lt; omega, fun h2 => by have := ho d.M h2; have := h.mlt; omega⟩
  · show List.Pairwise _ _
    rw [List.pairwise_append]
    exact ⟨h.names, by simp, fun a ha b hb => by simp at hb; subst hb; exact lookF_none hl a ha⟩
  · rcases hmem g hg with hg | e1
    · rcases hmem x hx with hx | e2
      · exact h.apart g hg x hx hne i hi
      · exact fun h2 => by have := ho i (e2 ▸ h2); have := (h.files g hg).lt hi; omega
    · rcases hmem x hx with hx | e2
      · exact fun h2 => by have := ho i (e1 ▸ hi); have := (h.files x hx).lt h2; omega
      · exact absurd (by rw [e1, e2]) hne
theorem sizes_filter (fs : List Fl) (p : Fl → Bool) : sizes (vws (fs.filter p)) ≤ sizes (vws fs) := by
  induction fs with
  | nil => exact Nat.le_refl _
  | cons a r ih =>
    show _ ≤ sizes (a.vw :: vws r)
    rw [sizes_cons, List.filter_cons]
    split
    · show sizes (a.vw :: vws _) ≤ _
      rw [sizes_cons]; omega
    · omega
/-- A file less. -/
theorem DkAt.del (h : DkAt w d) {s : ByteArray} {f : Fl} (hl : lookF d.fs s = some f) {D : DataW Unit} {n : Nat} (hm : w'.ownsMap Try.prog 9 ptrE d.M n D) (hr : Rd D (d.fs.filter fun f => decide (f.vw.name ≠ s))) (hk : ∀ i, i ≠ d.M → w'.heap[i]? = w.heap[i]?) :
    DkAt w' { d with fs := d.fs.filter fun f => decide (f.vw.name ≠ s) } := by
  have hmem : ∀ g, g ∈ d.fs.filter (fun f => decide (f.vw.name ≠ s)) → g ∈ d.fs := fun g hg => (List.mem_filter.1 hg).1
  exact ⟨h.box.of_eq (hk _ h.bm), ⟨D, ownsMap_tight hm (by rw [hr.size]; exact Nat.le_refl _), hr⟩, fun g hg => (h.files g (hmem g hg)).keep fun i hi => hk i fun e => (h.off g (hmem g hg)).2 (e ▸ hi), h.bm, fun g hg => h.off g (hmem g hg), h.names.filter _,
    fun g hg x hx => h.apart g (hmem g hg) x (hmem x hx), Nat.le_trans (sizes_filter _ _) h.used, h.room, Nat.le_trans (List.length_filter_le _ _) h.many, h.left⟩

/-! ### looked up, for the walk -/
theorem zero_ptr (w : World) : (zeroValue 63).run Try.prog w = .ok (.pointer none) w := by kernel_rfl
theorem key_of {s : ByteArray} (hs : s.size ≤ maxLen) : keyOf Try.prog 9 (.string s) = some (keyL s) := Go.WideMaps.keyOf_string_mk Try.underlying9 hs
theorem DkAt.look (h : DkAt w d) {s : ByteArray} (hs : s.size ≤ maxLen) : (Instr.lookup 53 (.map (some d.M)) (.string s) false).run Try.prog w = .ok (ptrV ((lookF d.fs s).map Fl.blk)) w := by
  obtain ⟨D, hm, hr⟩ := h.map
  obtain ⟨v, ps, hrun, hv⟩ := hm.lookup lawS Try.underlying53 (zero_ptr w) ptrE_none (key_of hs)
  rw [hrun]
  obtain ⟨c, rfl, hc⟩ := ptrE_inv hv
  have hat := hr.at_ s .nil
  simp only at hc
  rw [hat] at hc
  cases hl : lookF d.fs s with
  | none =>
    rw [hl] at hc
    cases c with
    | none => rfl
    | some b => cases hc
  | some f =>
    rw [hl] at hc
    cases c with
    | none => cases hc
    | some b =>
      simp only [DataW.lit.injEq, Lit.int.injEq, true_and] at hc
      have : f.blk = b := by omega
      rw [this.symm]; rfl
end
end Go.Proofs.Ytkieacidpiffpaa
