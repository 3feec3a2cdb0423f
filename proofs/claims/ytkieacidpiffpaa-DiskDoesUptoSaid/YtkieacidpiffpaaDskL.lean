/- The calls as a law meets them; the statements' example. -/
import Derived.Test.YtkieacidpiffpaaDskK
namespace Go.Proofs.Ytkieacidpiffpaa
open Go Go.RowKit Go.Shelf
set_option linter.unusedVariables false
set_option linter.unusedSimpArgs false

/-- A disk at B whose own blocks are these, and which is this. -/
def Lk (own : Nat → Prop) (w : World) (B : Nat) (m : Md) : Prop := ∃ d, DkAt w d ∧ d.B = B ∧ d.md = m ∧ d.own = own
def Nx (own : Nat → Prop) (w w' : World) (own' : Nat → Prop) : Prop := Kp own w w' ∧ ∀ i, own' i → own i ∨ w.heap.size ≤ i
section
variable {own own' : Nat → Prop} {w w' : World} {B : Nat} {m : Md}
theorem Lk.keep (h : Lk own w B m) (hb : ∀ i, own i → w'.heap[i]? = w.heap[i]?) : Lk own w' B m := by
  obtain ⟨d, h1, h2, h3, rfl⟩ := h; exact ⟨d, h1.keep hb, h2, h3, rfl⟩
theorem Lk.below (h : Lk own w B m) (hb : Below w.heap.size w w') : Lk own w' B m := by
  obtain ⟨d, h1, h2, h3, rfl⟩ := h; exact ⟨d, h1.below hb, h2, h3, rfl⟩
theorem Lk.lt (h : Lk own w B m) {i : Nat} (hi : own i) : i < w.heap.size := by obtain ⟨d, h1, h2, h3, rfl⟩ := h; exact h1.lt hi
theorem Src.next {A : Option Addr} {bs : List Int} (h : Src own w A bs) (k : Nx own w w' own') : Src own' w' A bs := fun hne => by
  obtain ⟨b, o, rfl, ho, hb, hc⟩ := (h.kp k.1) hne
  refine ⟨b, o, rfl, fun h2 => ?_, hb, hc⟩
  obtain ⟨b0, o0, e, ho0, hb0, _⟩ := h hne
  cases e
  rcases k.2 b h2 with h3 | h3
  · exact ho h3
  · omega
theorem Src.below {A : Option Addr} {bs : List Int} (h : Src own w A bs) (hb : Below w.heap.size w w') : Src own w' A bs := h.kp (Kp.of_below hb)
/-- A row that is new. -/
theorem Src.fresh {A : Option Addr} {bs : List Int} {n c : Nat} (h : Lk own w B m) (ho : OwnB w.heap.size w' (.slice A n c) bs) : Src own w' A bs := fun hne => by
  obtain ⟨g, d, e, _, hr⟩ := own_some ho rfl hne
  cases e
  obtain ⟨b, o, e, hb, hc⟩ := hr.bytes hne
  cases e
  exact ⟨_, _, rfl, fun h2 => by have := h.lt h2; have := hr.base; omega, hr.lt, hc⟩
theorem Nx.below (h : Nx own w w' own') {lo : Nat} (hl : lo ≤ w.heap.size) (ho : ∀ i, own i → lo ≤ i) : Below lo w w' ∧ ∀ i, own' i → lo ≤ i :=
  ⟨h.1.below hl ho, fun i hi => by rcases h.2 i hi with h2 | h2; exact ho i h2; omega⟩
def LRes (own : Nat → Prop) (w : World) (B : Nat) (r : Md × Int) (e : Ending) (w' : World) : Prop := e = .returned (.int .u16 r.2) ∧ ∃ own', Lk own' w' B r.1 ∧ Nx own w w' own'
theorem Res.lk {d : Dk} {r : Md × Int} {e : Ending} (hr : Res d w r e w') : LRes d.own w d.B r e w' := by
  obtain ⟨he, d', h1, h2, h3, h4, h5⟩ := hr
  exact ⟨he, _, ⟨d', h1, h3, h2, rfl⟩, h4, h5⟩
theorem l_append (h : Lk own w B m) (A : Option Addr) (c n : Nat) (s : ByteArray) (bs : List Int) (hA : Src own w A bs) (hs : s.size ≤ 30) (hB : Byte bs) (hl : bs.length ≤ 9223372036854775807) (hn : n = bs.length) {r : Md × Int} (hr : m.append s bs = r) :
    Calls Try.prog 11 #[.pointer (some ⟨B, 0, none⟩), .string s, .slice A n c] w (LRes own w B r) := by
  obtain ⟨d, h1, rfl, rfl, rfl⟩ := h; subst hr
  exact (append_any h1 A c n s bs hA (by unfold maxLen; omega) hB hl hn).mono fun e w' hq => hq.lk
theorem l_sync (h : Lk own w B m) (s : ByteArray) (hs : s.size ≤ 30) {r : Md × Int} (hr : m.sync s = r) : Calls Try.prog 12 #[.pointer (some ⟨B, 0, none⟩), .string s] w (LRes own w B r) := by
  obtain ⟨d, h1, rfl, rfl, rfl⟩ := h; subst hr
  exact (sync_any h1 s (by unfold maxLen; omega)).mono fun e w' hq => hq.lk
theorem l_cut (h : Lk own w B m) (s : ByteArray) (hs : s.size ≤ 30) (n : Int) (hn : -9223372036854775808 ≤ n ∧ n ≤ 9223372036854775807) {r : Md × Int} (hr : m.cut s n = r) : Calls Try.prog 13 #[.pointer (some ⟨B, 0, none⟩), .string s, .int .i64 n] w (LRes own w B r) := by
  obtain ⟨d, h1, rfl, rfl, rfl⟩ := h; subst hr
  exact (cut_any h1 s (by unfold maxLen; omega) n hn).mono fun e w' hq => hq.lk
theorem l_crash (h : Lk own w B m) (k : Int) (hk : -9223372036854775808 ≤ k ∧ k ≤ 9223372036854775807) {m' : Md} (hr : m.crash k = m') : Calls Try.prog 15 #[.pointer (some ⟨B, 0, none⟩), .int .i64 k] w fun e w' => e = .returned (.tuple #[]) ∧ ∃ own', Lk own' w' B m' ∧ Nx own w w' own' := by
  obtain ⟨d, h1, rfl, rfl, rfl⟩ := h; subst hr
  refine (crash_any h1 k hk).mono fun e w' hq => ?_
  obtain ⟨he, d', h1, h2, h3, h4, h5⟩ := hq
  exact ⟨he, _, ⟨d', h1, h3, h2, rfl⟩, h4, h5⟩
theorem l_used (h : Lk own w B m) {n : Nat} (hn : sizes m.fs = n) : Calls Try.prog 16 #[.pointer (some ⟨B, 0, none⟩)] w fun e w' => e = .returned (.int .i64 (n : Nat)) ∧ Below w.heap.size w w' := by
  obtain ⟨d, h1, rfl, rfl, rfl⟩ := h; subst hn
  exact used_any h1
theorem l_read (h : Lk own w B m) (s : ByteArray) (hs : s.size ≤ 30) {bs : List Int} {c : Int} (hb : readB m s = bs) (hc : readC m s = c) : Calls Try.prog 14 #[.pointer (some ⟨B, 0, none⟩), .string s] w fun e w' =>
    ∃ R q, e = .returned (.tuple #[.slice R bs.length q, .int .u16 c]) ∧ OwnB w.heap.size w' (.slice R bs.length q) bs ∧ Below w.heap.size w w' := by
  obtain ⟨d, h1, rfl, rfl, rfl⟩ := h; subst hb; subst hc
  exact read_any h1 s (by unfold maxLen; omega)
theorem l_new (w : World) (room : Nat) (hr : room ≤ 1048576) (z : Int) (hz : z = room) : Calls Try.prog 10 #[.int .i64 z] w fun e w' =>
    ∃ own B, e = .returned (.pointer (some ⟨B, 0, none⟩)) ∧ Lk own w' B ⟨room, false, -1, []⟩ ∧ (∀ i, own i → w.heap.size ≤ i) ∧ Below w.heap.size w w' :=
  (new_any w room hr z hz).mono fun e w' ⟨d, h1, h2, h3, h4, h5⟩ => ⟨_, d.B, h1, ⟨d, h2, rfl, h3, rfl⟩, h4, h5⟩
end
theorem lits_src {own : Nat → Prop} {w : World} {B : Nat} {m : Md} (h : Lk own w B m) (bs : List Int) : Src own (w.alloc (.cells (cellsB bs).toArray 5)) (some ⟨w.heap.size, 0, none⟩) bs := fun hne => by
  refine ⟨_, _, rfl, fun h2 => by have := h.lt h2; omega, by simp, fun i x hi => ?_⟩
  rw [Nat.zero_add, (Whole.new w 5 (cellsB bs).toArray).cell]
  simpa using cellsB_get hi
end Go.Proofs.Ytkieacidpiffpaa
