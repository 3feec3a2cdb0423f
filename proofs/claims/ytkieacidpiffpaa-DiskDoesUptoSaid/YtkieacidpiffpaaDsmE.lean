/- One call on both disks. -/
import Derived.Test.YtkieacidpiffpaaDsmD
import Derived.Test.YtkieacidpiffpaaDskR
namespace Go.Proofs.Ytkieacidpiffpaa
open Go Go.RowKit Go.Shelf
set_option linter.unusedVariables false
set_option linter.unusedSimpArgs false

/-- The document's own disk at B whose own blocks are these, and which is this. -/
def Rn (own : Nat → Prop) (w : World) (B : Nat) (m : Rm) : Prop := ∃ r, RkAt w r ∧ r.B = B ∧ r.rm = m ∧ r.own = own
section
variable {own own' : Nat → Prop} {w w' : World} {B : Nat} {m : Rm}
theorem Rn.keep (h : Rn own w B m) (hb : ∀ i, own i → w'.heap[i]? = w.heap[i]?) : Rn own w' B m := by
  obtain ⟨r, h1, h2, h3, rfl⟩ := h; exact ⟨r, h1.keep hb, h2, h3, rfl⟩
theorem Rn.lt (h : Rn own w B m) {i : Nat} (hi : own i) : i < w.heap.size := by obtain ⟨r, h1, h2, h3, rfl⟩ := h; exact h1.lt hi
theorem Rn.bounds (h : Rn own w B m) : sizes m.fs ≤ m.room ∧ m.room ≤ 1048576 ∧ m.fs.length ≤ 64 := by
  obtain ⟨r, h1, h2, rfl, h4⟩ := h
  exact ⟨h1.used, h1.room, by show (rvs r.fs).length ≤ 64; unfold rvs; rw [List.length_map]; exact h1.many⟩
def NRes (own : Nat → Prop) (w : World) (B : Nat) (p : Rm × Int) (e : Ending) (w' : World) : Prop := e = .returned (.int .i64 p.2) ∧ ∃ own', Rn own' w' B p.1 ∧ Nx own w w' own'
theorem RRes.rn {r : Rk} {p : Rm × Int} {e : Ending} (hr : RRes r w p e w') : NRes r.own w r.B p e w' := by
  obtain ⟨he, r', h1, h2, h3, h4, h5⟩ := hr
  exact ⟨he, _, ⟨r', h1, h3, h2, rfl⟩, h4, h5⟩
theorem n_append (h : Rn own w B m) (A : Option Addr) (c n : Nat) (s : ByteArray) (bs : List Int) (hA : Src own w A bs) (hB : Byte bs) (hl : bs.length ≤ 9223372036854775807) (hn : n = bs.length) {p : Rm × Int} (hp : m.append s bs = p) :
    Calls Try.prog 45 #[.pointer (some ⟨B, 0, none⟩), .string s, .slice A n c] w (NRes own w B p) := by
  obtain ⟨r, h1, rfl, rfl, rfl⟩ := h; subst hp; subst hn
  exact (rappend_any h1 A c s bs hA hB hl).mono fun e w' hq => hq.rn
theorem n_sync (h : Rn own w B m) (s : ByteArray) {p : Rm × Int} (hp : m.sync s = p) : Calls Try.prog 38 #[.pointer (some ⟨B, 0, none⟩), .string s] w (NRes own w B p) := by
  obtain ⟨r, h1, rfl, rfl, rfl⟩ := h; subst hp
  exact (rsync_any h1 s).mono fun e w' hq => hq.rn
theorem n_cut (h : Rn own w B m) (s : ByteArray) (n : Int) (hn : -9223372036854775808 ≤ n ∧ n ≤ 9223372036854775807) {p : Rm × Int} (hp : m.cut s n = p) : Calls Try.prog 39 #[.pointer (some ⟨B, 0, none⟩), .string s, .int .i64 n] w (NRes own w B p) := by
  obtain ⟨r, h1, rfl, rfl, rfl⟩ := h; subst hp
  exact (rcut_any h1 s n hn).mono fun e w' hq => hq.rn
theorem n_drop (h : Rn own w B m) (s : ByteArray) {p : Rm × Int} (hp : m.drop s = p) : Calls Try.prog 40 #[.pointer (some ⟨B, 0, none⟩), .string s] w (NRes own w B p) := by
  obtain ⟨r, h1, rfl, rfl, rfl⟩ := h; subst hp
  exact (rdrop_any h1 s).mono fun e w' hq => hq.rn
def NEnd (own : Nat → Prop) (w : World) (B : Nat) (m : Rm) (e : Ending) (w' : World) : Prop := e = .returned (.tuple #[]) ∧ ∃ own', Rn own' w' B m ∧ Nx own w w' own'
theorem n_crash (h : Rn own w B m) (k : Int) (hk : -9223372036854775808 ≤ k ∧ k ≤ 9223372036854775807) : Calls Try.prog 42 #[.pointer (some ⟨B, 0, none⟩), .int .i64 k] w (NEnd own w B (m.crash k)) := by
  obtain ⟨r, h1, rfl, rfl, rfl⟩ := h
  exact (rcrash_any h1 k hk).mono fun e w' ⟨he, r', q1, q2, q3, q4, q5⟩ => ⟨he, _, ⟨r', q1, q3, q2, rfl⟩, q4, fun i hi => .inl (q5 i hi)⟩
def Rm.halt (m : Rm) (n : Int) : Rm := { m with left := max n (-1), dead := decide (n = 0) }
theorem n_full (h : Rn own w B m) (on : Bool) : Calls Try.prog 43 #[.pointer (some ⟨B, 0, none⟩), .bool on] w (NEnd own w B { m with on := on }) := by
  obtain ⟨r, h1, rfl, rfl, rfl⟩ := h
  exact (rfull_any h1 on).mono fun e w' ⟨he, q1, q2⟩ => ⟨he, _, ⟨_, q1, rfl, rfl, rfl⟩, q2, fun i hi => .inl hi⟩
theorem n_halt (h : Rn own w B m) (n : Int) (hn : n ≤ 9223372036854775807) : Calls Try.prog 44 #[.pointer (some ⟨B, 0, none⟩), .int .i64 n] w (NEnd own w B (m.halt n)) := by
  obtain ⟨r, h1, rfl, rfl, rfl⟩ := h
  exact (rhalt_any h1 n hn).mono fun e w' ⟨he, q1, q2⟩ => ⟨he, _, ⟨_, q1, rfl, rfl, rfl⟩, q2, fun i hi => .inl hi⟩
theorem n_read (h : Rn own w B m) (s : ByteArray) {bs : List Int} {c : Int} (hb : rreadB m s = bs) (hc : rreadC m s = c) : Calls Try.prog 41 #[.pointer (some ⟨B, 0, none⟩), .string s] w fun e w' =>
    ∃ R q, e = .returned (.tuple #[.slice R bs.length q, .int .i64 c]) ∧ OwnB w.heap.size w' (.slice R bs.length q) bs ∧ Below w.heap.size w w' := by
  obtain ⟨r, h1, rfl, rfl, rfl⟩ := h; subst hb; subst hc
  exact rread_any h1 s
theorem n_new (w : World) (room : Nat) (hr : room ≤ 1048576) (z : Int) (hz : z = room) : Calls Try.prog 18 #[.int .i64 z] w fun e w' =>
    ∃ own B, e = .returned (.pointer (some ⟨B, 0, none⟩)) ∧ Rn own w' B ⟨room, [], false, -1, false⟩ ∧ (∀ i, own i → w.heap.size ≤ i) ∧ Below w.heap.size w w' :=
  (rnew_any w room hr z hz).mono fun e w' ⟨r, h1, h2, h3, h4, h5⟩ => ⟨_, r.B, h1, ⟨r, h2, rfl, h3, rfl⟩, h4, h5⟩
end
section
variable {own own' : Nat → Prop} {w w' : World} {B : Nat} {m : Md}
theorem m_sync (h : Lk own w B m) (s : ByteArray) (hs : s.size ≤ maxLen) {r : Md × Int} (hr : m.sync s = r) : Calls Try.prog 12 #[.pointer (some ⟨B, 0, none⟩), .string s] w (LRes own w B r) := by
  obtain ⟨d, h1, rfl, rfl, rfl⟩ := h; subst hr
  exact (sync_any h1 s hs).mono fun e w' hq => hq.lk
theorem m_cut (h : Lk own w B m) (s : ByteArray) (hs : s.size ≤ maxLen) (n : Int) (hn : -9223372036854775808 ≤ n ∧ n ≤ 9223372036854775807) {r : Md × Int} (hr : m.cut s n = r) : Calls Try.prog 13 #[.pointer (some ⟨B, 0, none⟩), .string s, .int .i64 n] w (LRes own w B r) := by
  obtain ⟨d, h1, rfl, rfl, rfl⟩ := h; subst hr
  exact (cut_any h1 s hs n hn).mono fun e w' hq => hq.lk
theorem m_drop (h : Lk own w B m) (s : ByteArray) (hs : s.size ≤ maxLen) {r : Md × Int} (hr : m.drop s = r) : Calls Try.prog 23 #[.pointer (some ⟨B, 0, none⟩), .string s] w (LRes own w B r) := by
  obtain ⟨d, h1, rfl, rfl, rfl⟩ := h; subst hr
  exact (drop_any h1 s hs).mono fun e w' hq => hq.lk
def LEnd (own : Nat → Prop) (w : World) (B : Nat) (m : Md) (e : Ending) (w' : World) : Prop := e = .returned (.tuple #[]) ∧ ∃ own', Lk own' w' B m ∧ Nx own w w' own'
theorem m_full (h : Lk own w B m) (on : Bool) : Calls Try.prog 37 #[.pointer (some ⟨B, 0, none⟩), .bool on] w (LEnd own w B { m with full := on }) := by
  obtain ⟨d, h1, rfl, rfl, rfl⟩ := h
  exact (full_any h1 on).mono fun e w' ⟨he, q1, q2⟩ => ⟨he, _, ⟨_, q1, rfl, rfl, rfl⟩, q2, fun i hi => .inl hi⟩
theorem m_halt (h : Lk own w B m) (n : Int) (hn : n ≤ 9223372036854775807) : Calls Try.prog 21 #[.pointer (some ⟨B, 0, none⟩), .int .i64 n] w (LEnd own w B (m.halt n)) := by
  obtain ⟨d, h1, rfl, rfl, rfl⟩ := h
  exact (halt_any h1 n hn).mono fun e w' ⟨he, q1, q2⟩ => ⟨he, _, ⟨_, q1, rfl, rfl, rfl⟩, q2, fun i hi => .inl hi⟩
end
/-- Two disks, one of either kind, that have nothing to do with one another. -/
structure Two (own own2 : Nat → Prop) (w : World) (B B2 : Nat) (m : Md) (m2 : Rm) : Prop where
  l : Lk own w B m
  r : Rn own2 w B2 m2
  off : ∀ i, own i → ¬ own2 i
section
variable {own own2 o' : Nat → Prop} {w w' : World} {B B2 : Nat} {m m' : Md} {m2 m2' : Rm}
theorem Two.left (h : Two own own2 w B B2 m m2) (hl : Lk o' w' B m') (hn : Nx own w w' o') : Two o' own2 w' B B2 m' m2 :=
  ⟨hl, h.r.keep fun i hi => hn.1.block i (h.r.lt hi) fun h2 => h.off i h2 hi, fun i hi h2 => by
    rcases hn.2 i hi with h3 | h3
    · exact h.off i h3 h2
    · have := h.r.lt h2; omega⟩
theorem Two.right (h : Two own own2 w B B2 m m2) (hl : Rn o' w' B2 m2') (hn : Nx own2 w w' o') : Two own o' w' B B2 m m2' :=
  ⟨h.l.keep fun i hi => hn.1.block i (h.l.lt hi) fun h2 => h.off i hi h2, hl, fun i hi h2 => by
    rcases hn.2 i h2 with h3 | h3
    · exact h.off i hi h3
    · have := h.l.lt hi; omega⟩
theorem Two.below (h : Two own own2 w B B2 m m2) (hb : Below w.heap.size w w') : Two own own2 w' B B2 m m2 :=
  ⟨h.l.below hb, h.r.keep fun i hi => hb.block i (h.r.lt hi), h.off⟩
end
/-- What one call on both leaves. -/
structure Pair (own own2 : Nat → Prop) (w : World) (B B2 : Nat) (own' own2' : Nat → Prop) (m' : Md) (m2' : Rm) (w' : World) : Prop where
  two : Two own' own2' w' B B2 m' m2'
  kp : Kp (fun i => own i ∨ own2 i) w w'
  new1 : ∀ i, own' i → own i ∨ w.heap.size ≤ i
  new2 : ∀ i, own2' i → own2 i ∨ w.heap.size ≤ i
section
variable {own own2 o1 o2 o' : Nat → Prop} {w w1 w' : World} {B B2 : Nat} {m m' : Md} {m2 m2' : Rm}
theorem Pair.start (h : Two own own2 w B B2 m m2) : Pair own own2 w B B2 own own2 m m2 w := ⟨h, Kp.refl _ _, fun i hi => .inl hi, fun i hi => .inl hi⟩
theorem Pair.below (h : Pair own own2 w B B2 o1 o2 m m2 w1) (hb : Below w1.heap.size w1 w') : Pair own own2 w B B2 o1 o2 m m2 w' :=
  ⟨h.two.below hb, h.kp.trans (Kp.of_below (own := fun _ => False) hb) fun i hi => hi.elim, h.new1, h.new2⟩
theorem Pair.left (h : Pair own own2 w B B2 o1 o2 m m2 w1) (hl : Lk o' w' B m') (hn : Nx o1 w1 w' o') : Pair own own2 w B B2 o' o2 m' m2 w' :=
  ⟨h.two.left hl hn, h.kp.trans hn.1 fun i hi => (h.new1 i hi).imp .inl id, fun i hi => by
    rcases hn.2 i hi with h3 | h3
    · exact h.new1 i h3
    · exact .inr (Nat.le_trans h.kp.size h3), h.new2⟩
theorem Pair.right (h : Pair own own2 w B B2 o1 o2 m m2 w1) (hl : Rn o' w' B2 m2') (hn : Nx o2 w1 w' o') : Pair own own2 w B B2 o1 o' m m2' w' :=
  ⟨h.two.right hl hn, h.kp.trans hn.1 fun i hi => (h.new2 i hi).imp .inr id, h.new1, fun i hi => by
    rcases hn.2 i hi with h3 | h3
    · exact h.new2 i h3
    · exact .inr (Nat.le_trans h.kp.size h3)⟩
end
end Go.Proofs.Ytkieacidpiffpaa
